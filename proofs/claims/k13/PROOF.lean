import PyProof.Rows.All
import Wide.All
import OpenK.AllK
import Wide.FinOn
import HandS.ForMost
import HandS.IsInst
import HandS.Zip
import HandS.Walk
import HandS.More
import HandS.SortKw
import HandS.ForExc
import HandS.ExcInit
import HandS.ExcField
import HandS.TryMany
import HandS.ClsMeth
import HandS.FStr
import HandS.FStrTup
import HandS.WordsExc
import HandS.Defaults
import HandS.SuiteRaise
import HandS.RaiseFrom
import HandS.ExcInitHot
import KE.KAsSuite
import KE.KExcIs
import HandS.Text
import HandS.SortInts
import HandS.SetFor
import HandS.Iter
import HandS.Comp
import HandS.Conv
import HandS.TupSets
import HandS.DictTup
import PyProof.DictMoreH
import KE.KEqDict
import HandS.Flow
import HandS.TupLen
import HandS.HeadNt
import HandS.Lambda
import HandS.Exc
import KE.GoesRaise
import HandS.DictComp
import HandS.Sort
import HandS.Deep
import PyProof.ListRange
import OpenK.KOps
import HandS.OwnEq
import HandS.Small
import HandS.MakeKwOnly
import HandS.Style
import HandS.TupAny
import HandS.EndTab
import HandS.NestedK
import HandS.Head0
import HandS.Head1
import HandS.Head2
import HandS.HeadEnd
import HandS.HeadHook1
import HandS.HeadHook2
import HandS.HeadHook3
import HandS.HeadHook4
import HandS.HeadWalk
import PySem.Challenge.RW_swapslip_k13_ties_built_and_broken
set_option Elab.async false
set_option linter.all false
set_option maxRecDepth 100000
set_option maxHeartbeats 2000000


namespace PySem
namespace F
theorem args_sum2 (a b : Value) : argsOk "sum" ⟨[a, b], []⟩ := by unfold argsOk; kernel_rfl
end F
/-- the items of the lists from the i-th on, k of them -/
def catFrom (xs : Nat → Array Value) (i : Nat) : Nat → Array Value
  | 0 => #[]
  | k + 1 => xs i ++ catFrom xs (i + 1) k
section
variable {prog : Program} {w : World} {A : Around} {R : Result → Shared → Prop}
theorem sum_lists_loop (hh : A.in1.handled = none) (I ax S : Addr) (hne : ax ≠ I) (hSI : S ≠ I) (hSa : S ≠ ax) (items : Array Value) (ls : Nat → Addr) (xs : Nat → Array Value)
    (hit : ∀ (i : Nat) (v : Value), items[i]? = some v → v = Value.ref (ls i)) (hlI : ∀ i, i < items.size → ls i ≠ I) (hlS : ∀ i, i < items.size → ls i ≠ S) :
    ∀ (k i : Nat) (s : Shared) (acc : Addr) (ai : Array Value) (m c : Nat), items.size - i = k → i ≤ items.size → (s.heap.IsListIter I ax i ∧ s.heap.IsList ax items) →
      s.heap.get? S = some { cls := .type "list", dict := none, data := .seq #[.ref acc] c, slots := #[] } → s.heap.get? acc = some { cls := .type "list", data := .seq ai m } →
      (∀ j, j < items.size → ∃ n, s.heap.get? (ls j) = some { cls := .type "list", data := .seq (xs j) n }) → acc ≠ I → acc ≠ S →
      ai.size + (catFrom xs i k).size ≤ sizeLine →
      (∀ h' tk r n, (∀ b o, b ≠ I → b ≠ S → s.heap.get? b = some o → h'.get? b = some o) → h'.get? r = some { cls := .type "list", data := .seq (ai ++ catFrom xs i k) n } → (k = 0 → r = acc) → (0 < k → S < r) → R (.ok (.ret (.ref r))) { s with heap := h', toks := tk }) →
      codeAny (model prog w) A (.builtin "sum.loop" ⟨[.ref I, .ref S, rawInt 2, rawInt 0], []⟩) R s := by
  have W := Walks.list (prog := prog) (w := w) hh I ax hne items
  intro k
  induction k with
  | zero =>
    intro i s acc ai m c hk hi hst hS ha hl haI haS hz hR
    have hin : i = items.size := by omega
    subst hin
    refine codeAny_builtin F.entry_sum_loop ?_
    rw [Around.under_plainId F.plain_sum_loop _]
    show wpAny _ A.in1 (seqItems? (.ref S) >>= _) _ _ s
    refine wpAny_bind (wpAny_seqItems hS rfl ?_)
    show wpAny _ A.in1 (tryCatch (pyNext (.ref I)) _ >>= _) _ _ s
    refine wpAny_bind (wpAny_tryCatch (W.done s _ _ hst fun h' tk hk' => ?_))
    refine wpAny_pure (hR h' tk acc m (fun b o hbI hbS e => hk' b o (by simpa using hbI) e) ?_ (fun _ => rfl) (fun h => absurd h (Nat.lt_irrefl _)))
    have := hk' acc _ (by simpa using haI) ha
    simpa [catFrom] using this
  | succ k ih =>
    intro i s acc ai m c hk hi hst hS ha hl haI haS hz hR
    have hlt : i < items.size := by omega
    refine codeAny_builtin F.entry_sum_loop ?_
    rw [Around.under_plainId F.plain_sum_loop _]
    show wpAny _ A.in1 (seqItems? (.ref S) >>= _) _ _ s
    refine wpAny_bind (wpAny_seqItems hS rfl ?_)
    show wpAny _ A.in1 (tryCatch (pyNext (.ref I)) _ >>= _) _ _ s
    refine wpAny_bind (wpAny_tryCatch (W.item i s _ _ hlt hst fun v h' tk hP hst' hk' => ?_))
    have ev := hit i v hP
    subst ev
    have hS' := hk' S _ (by simpa using hSI) hS
    have ha' := hk' acc _ (by simpa using haI) ha
    obtain ⟨n1, hl1⟩ := hl i hlt
    have hl1' := hk' (ls i) _ (by simpa using hlI i hlt) hl1
    have hzz : ai.size + (xs i).size ≤ sizeLine := by
      have : (catFrom xs i (k + 1)).size = (xs i).size + (catFrom xs (i + 1) k).size := by simp [catFrom]
      omega
    show wpAny _ A.in1 ((holding [Value.ref (ls i)] (binaryOp .Add (.ref acc) (.ref (ls i)))).attempt >>= _) _ _ _
    refine wpAny_bind (wpAny_attempt (wpAny_holding (PySem.P.add_list (s := { s with heap := h', toks := tk }) ha' hl1' ?_ hzz)))
    have hSz : S < h'.objs.size := Heap.lt_size hS'
    have hIz : I < h'.objs.size := by obtain ⟨_, e, _⟩ := hst'.1; exact Heap.lt_size e
    have hS2 : (h'.push { cls := .type "list", data := .seq (ai ++ xs i) }).get? S = _ := Heap.get?_push_of_some _ hS'
    show wpAny _ A.in1 (updateSeq S (fun _ => #[.ref h'.objs.size]) >>= _) _ _ _
    refine wpAny_bind (wpAny_updateSeq hS2 rfl ?_)
    have hS₃ := Heap.get?_update_self (Obj.mapSeq fun _ => #[Value.ref h'.objs.size]) hS2 rfl
    refine wpAny_bind (wpAny_letGo ?_)
    refine wpAny_bind (wpAny_updateSeq hS₃ rfl ?_)
    have hS₄ := Heap.get?_update_self (Obj.mapSeq fun _ => #[Value.ref h'.objs.size]) hS₃ rfl
    have keep : ∀ b o, b ≠ S → h'.get? b = some o → (((h'.push { cls := .type "list", data := .seq (ai ++ xs i) }).update S (Obj.mapSeq fun _ => #[Value.ref h'.objs.size])).update S (Obj.mapSeq fun _ => #[Value.ref h'.objs.size])).get? b = some o := fun b o hb e =>
      (Heap.get?_update_other _ _ (Ne.symm hb)).trans ((Heap.get?_update_other _ _ (Ne.symm hb)).trans (Heap.get?_push_of_some _ e))
    have hnew : (((h'.push { cls := .type "list", data := .seq (ai ++ xs i) }).update S (Obj.mapSeq fun _ => #[Value.ref h'.objs.size])).update S (Obj.mapSeq fun _ => #[Value.ref h'.objs.size])).get? h'.objs.size = some { cls := .type "list", data := .seq (ai ++ xs i) } :=
      (Heap.get?_update_other _ _ (Nat.ne_of_lt hSz)).trans ((Heap.get?_update_other _ _ (Nat.ne_of_lt hSz)).trans (Heap.get?_push_size _ rfl))
    refine wpAny_pure ⟨plainId_quiet F.plain_sum_loop _, ih (i + 1) _ h'.objs.size (ai ++ xs i) _ _ (by omega) hlt (W.frame _ _ _ hst' fun b hb o e => keep b o ?_ e) hS₄ hnew ?_ (Nat.ne_of_gt hIz) (Nat.ne_of_gt hSz) ?_ ?_⟩
    · intro q; subst q
      rcases List.mem_cons.mp hb with q | q
      · exact hSI q
      · exact hSa (by simpa using q)
    · intro j hj
      obtain ⟨n2, e2⟩ := hl j hj
      exact ⟨n2, keep _ _ (hlS j hj) (hk' _ _ (by simpa using hlI j hj) e2)⟩
    · have : (catFrom xs i (k + 1)).size = (xs i).size + (catFrom xs (i + 1) k).size := by simp [catFrom]
      simp only [Array.size_append]
      omega
    · intro h2 tk2 r n hk2 hr h0 h1
      refine hR h2 tk2 r n (fun b o hbI hbS e => hk2 b o hbI hbS (keep b o hbS (hk' b o (by simpa using hbI) e))) ?_ (fun q => by omega) (fun _ => ?_)
      · simpa [catFrom, Array.append_assoc] using hr
      · by_cases h00 : k = 0
        · rw [h0 h00]; exact hSz
        · exact h1 (by omega)
end
section
variable {prog : Program} {w : World} {A : Around} {E : Value → Shared → Prop} {s : Shared}
theorem sub_list_str : isSubtype (.type "list") (.type "str") = pure false := by rw [isSubtype_type]; kernel_rfl
theorem sub_list_bytes : isSubtype (.type "list") (.type "bytes") = pure false := by rw [isSubtype_type]; kernel_rfl
theorem sub_list_bytearray : isSubtype (.type "list") (.type "bytearray") = pure false := by rw [isSubtype_type]; kernel_rfl
theorem call_sum_lists {l z : Addr} {items zi : Array Value} {nl nz : Nat} {Q : Value → Shared → Prop} (ls : Nat → Addr) (xs : Nat → Array Value) (hh : A.in1.handled = none)
    (hl : s.heap.get? l = some { cls := .type "list", data := .seq items nl }) (hz : s.heap.get? z = some { cls := .type "list", data := .seq zi nz })
    (hit : ∀ (i : Nat) (v : Value), items[i]? = some v → v = Value.ref (ls i)) (hls : ∀ j, j < items.size → ∃ n, s.heap.get? (ls j) = some { cls := .type "list", data := .seq (xs j) n }) (hpos : 0 < items.size)
    (hsz : zi.size + (catFrom xs 0 items.size).size ≤ sizeLine)
    (h : ∀ h' tk r n, (∀ b o, s.heap.get? b = some o → h'.get? b = some o) → s.heap.objs.size ≤ r → h'.get? r = some { cls := .type "list", data := .seq (zi ++ catFrom xs 0 items.size) n } → Q (.ref r) { s with heap := h', toks := tk }) :
    wpAny (model prog w) A (call (.builtin "sum") [.ref l, .ref z]) Q E s := by
  have hil : s.heap.IsList l items := ⟨_, hl, rfl, _, rfl⟩
  have hiz : s.heap.IsList z zi := ⟨_, hz, rfl, _, rfl⟩
  refine call_function_tree F.kind_sum F.plain_sum F.entry_sum (F.args_sum2 _ _) ?_
  unfold Builtin.«sum»
  simp only [List.length_cons, List.length_nil]
  rw [if_neg (by decide)]
  refine wpAny_bind (wpAny_of_eq (show Builtin.Builtins.bindParams "sum" ["start"] 0 ⟨[.ref z], []⟩ = pure [some (.ref z)] from rfl) ?_)
  refine wpAny_bind (L2.iter_any hil fun s₂ e2 st hne => ?_)
  subst e2
  refine wpAny_bind (wpAny_pure ?_)
  have hiz2 := hiz.push { cls := .type "list_iterator", data := .fields #[.ref l, .int 0 0] }
  simp only [List.forIn_cons, List.forIn_nil]
  refine wpAny_bind (wpAny_bind (wpAny_bind (wpAny_isInstance (T := "list") (b := false) hiz2.typeIs sub_list_str ?_)))
  simp only [Bool.false_eq_true, if_false]
  refine wpAny_pure (wpAny_bind (wpAny_bind (wpAny_isInstance (T := "list") (b := false) hiz2.typeIs sub_list_bytes ?_)))
  simp only [Bool.false_eq_true, if_false]
  refine wpAny_pure (wpAny_bind (wpAny_bind (wpAny_isInstance (T := "list") (b := false) hiz2.typeIs sub_list_bytearray ?_)))
  simp only [Bool.false_eq_true, if_false]
  refine wpAny_pure (wpAny_pure ?_)
  refine wpAny_bind (wpAny_newObj_type ?_)
  have hsz1 : (s.heap.push { cls := .type "list_iterator", data := .fields #[.ref l, .int 0 0] }).objs.size = s.heap.objs.size + 1 := Heap.size_push _ _
  have old : ∀ b o, s.heap.get? b = some o → ((s.heap.push { cls := .type "list_iterator", data := .fields #[.ref l, .int 0 0] }).push { cls := .type "list", data := .seq #[Value.ref z] }).get? b = some o := fun b o e =>
    Heap.get?_push_of_some _ (Heap.get?_push_of_some _ e)
  have lt : ∀ b o, s.heap.get? b = some o → b < s.heap.objs.size := fun b o e => Heap.lt_size e
  have lt2 : ∀ b, b < s.heap.objs.size → b ≠ (s.heap.push { cls := .type "list_iterator", data := .fields #[.ref l, .int 0 0] }).objs.size := fun b hb => Nat.ne_of_lt (by rw [hsz1]; exact Nat.lt_succ_of_lt hb)
  refine wpAny_pure ⟨plainId_quiet F.plain_sum_loop _, sum_lists_loop (A := A) hh s.heap.objs.size l (s.heap.push { cls := .type "list_iterator", data := .fields #[.ref l, .int 0 0] }).objs.size hne (Nat.ne_of_gt (by rw [hsz1]; exact Nat.lt_succ_self _)) (Ne.symm (lt2 _ (lt _ _ hl))) items ls xs hit
    (fun i hi => by obtain ⟨n, e⟩ := hls i hi; exact Nat.ne_of_lt (lt _ _ e)) (fun i hi => by obtain ⟨n, e⟩ := hls i hi; exact lt2 _ (lt _ _ e))
    items.size 0 _ z zi nz 0 (by omega) (Nat.zero_le _) ⟨st.1.at fun o e => Heap.get?_push_of_some _ e, st.2.push _⟩ (Heap.get?_push_size _ rfl) (old _ _ hz) (fun j hj => by obtain ⟨n, e⟩ := hls j hj; exact ⟨n, old _ _ e⟩)
    (Nat.ne_of_lt (lt _ _ hz)) (lt2 _ (lt _ _ hz)) hsz fun h' tk r n hk hr _ h1 => ?_⟩
  refine h h' tk r n (fun b o e => hk b o (Nat.ne_of_lt (lt _ _ e)) (lt2 _ (lt _ _ e)) (old b o e)) ?_ hr
  have := h1 hpos
  rw [hsz1] at this
  exact Nat.le_of_lt (Nat.lt_of_succ_lt this)
end
end PySem

namespace L2
open PySem PySem.Spec PyProof.Rows
section
variable {X : Cx}
/-- xs[i] as it is read in xs[i] op= e -/
def rGetL (K : PySem.W.Frag) : R2 := fun x y H Q => ∃ p xs i v, x = .ref p ∧ y = .int i ∧ SqL K H p xs ∧ 0 ≤ i ∧ xs[i.toNat]? = some v ∧ Q v H
theorem get_listA : PGet X (rGetL X.K) := by
  intro pins s σ H x y v u Q I rx ry h
  obtain ⟨p, xs, i, z, rfl, rfl, hq, h0, he, q⟩ := h
  cases rx
  obtain ⟨t, rfl⟩ := ry
  obtain ⟨its, r, pl, hz⟩ := I.list hq
  obtain ⟨w, ew, rw'⟩ := r.get he
  have hl := r.length
  have hn := line63
  have hlt : i.toNat < xs.length := (List.getElem?_eq_some_iff.mp he).1
  exact wpAny_getItem_list pl.isList h0 (by omega) (by simpa using ew) ⟨z, H, I, rw', q⟩
/-- sum(xss, zs): a list of one list and more, and a list to begin with -/
def rSumL (K : PySem.W.Frag) : List V → Hp → VK → Prop := fun vs H Q => ∃ (a z : Addr) (ls : List Addr) (xss : List (List V)) (zs : List V), vs = [V.ref a, V.ref z] ∧ H a = some (.lst (ls.map V.ref)) ∧ H z = some (.lst zs) ∧
  Paired (fun l xs => H l = some (.lst xs)) ls xss ∧ ls ≠ [] ∧ zs.length + xss.flatten.length ≤ sizeLine ∧ ∀ p, H p = none → Q (.ref p) (upd H p (.lst (zs ++ xss.flatten)))
theorem paired_at {α β : Type} {R : α → β → Prop} : ∀ {xs : List α} {ys : List β}, Paired R xs ys → ∀ (i : Nat) (x : α), xs[i]? = some x → ∃ y, ys[i]? = some y ∧ R x y
  | _, _, .nil, i, x, h => by simp at h
  | _, _, .cons r t, 0, x, h => by simp at h; subst h; exact ⟨_, rfl, r⟩
  | _, _, .cons r t, i + 1, x, h => by
    obtain ⟨y, e, q⟩ := paired_at t i x (by simpa using h)
    exact ⟨y, by simpa using e, q⟩
/-- the items of the list object at a -/
def seqAt (h : Heap) (a : Addr) : Array Value := match h.get? a with
  | some ⟨_, _, .seq xs _, _⟩ => xs
  | _ => #[]
theorem vals_cat {X : Cx} {pins : List (Addr × Obj)} {σ : St} {H : Hp} {s : Shared} (I : Inv X pins σ H s) : ∀ {ls : List Addr} {xss : List (List V)} (f : Nat → Addr) (i : Nat), Paired (fun l xs => H l = some (.lst xs)) ls xss → (∀ j a, ls[j]? = some a → f (i + j) = a) →
    Vals xss.flatten (catFrom (fun j => seqAt s.heap (f j)) i ls.length).toList
  | _, _, f, i, .nil, _ => .nil
  | _, _, f, i, .cons (a := l) (b := xs) (l₁ := ls) (l₂ := xss) r t, h => by
    obtain ⟨z, its, n, rv, hl, e⟩ := I.lstM r
    have e0 : f i = l := h 0 l rfl
    have es : seqAt s.heap (f i) = its.toArray := by
      unfold seqAt
      rw [e0, e]
    have ih := vals_cat I f (i + 1) t fun j a ha => by rw [show i + 1 + j = i + (j + 1) by omega]; exact h (j + 1) a (by simpa using ha)
    show Vals (xs ++ xss.flatten) (seqAt s.heap (f i) ++ catFrom (fun j => seqAt s.heap (f j)) (i + 1) ls.length).toList
    rw [es, Array.toList_append]
    exact rv.append ih
theorem vals_refsW : ∀ {ls : List Addr} {us : List Value}, Vals (ls.map V.ref) us → us = ls.map Value.ref
  | [], _, .nil => rfl
  | l :: ls, _, .cons r t => by
    rw [vals_refsW t]
    cases r
    rfl
theorem cr_sumL (hc : X.calm = true) : CallR X (.builtin "sum") (rSumL X.K) := by
  intro pins s σ H vs us Q I r h
  obtain ⟨a, z, ls, xss, zs, rfl, ha, hz, hp, hne, hsz, q⟩ := h
  obtain ⟨u1, u2, rfl, r1, r2⟩ := Vals.two r
  cases (show u1 = Value.ref a from r1)
  cases (show u2 = Value.ref z from r2)
  obtain ⟨_, its, n, rv, hl, e⟩ := I.lstM ha
  obtain ⟨_, itz, nz, rz, hlz, ez⟩ := I.lstM hz
  have ei := vals_refsW rv
  subst ei
  have hlen : (ls.map Value.ref).toArray.size = ls.length := by simp
  have hcat := vals_cat I (fun j => ls.getD j 0) 0 hp (fun j b hb => by
    show ls.getD (0 + j) 0 = b
    rw [Nat.zero_add, List.getD_eq_getElem?_getD, hb]
    rfl)
  have hcl := hcat.length
  refine call_sum_lists (items := (ls.map Value.ref).toArray) (zi := itz.toArray) (fun j => ls.getD j 0) (fun j => seqAt s.heap (ls.getD j 0)) (I.ok.hd hc) e ez (fun i v hv => ?_) (fun j hj => ?_) ?_ ?_ fun h' tk p n' hk hp' hr => ?_
  · have hv' : (ls.map Value.ref)[i]? = some v := by simpa using hv
    rw [List.getElem?_map] at hv'
    obtain ⟨b, hb, rfl⟩ := Option.map_eq_some_iff.mp hv'
    rw [List.getD_eq_getElem?_getD, hb]
    rfl
  · rw [hlen] at hj
    have hb : ls[j]? = some ls[j] := List.getElem?_eq_getElem hj
    obtain ⟨ys, _, hy⟩ := paired_at hp j _ hb
    obtain ⟨_, itj, nj, _, _, ej⟩ := I.lstM hy
    refine ⟨nj, ?_⟩
    have : ls.getD j 0 = ls[j] := by rw [List.getD_eq_getElem?_getD, hb]; rfl
    rw [this, ej]
    unfold seqAt
    rw [ej]
  · rw [hlen]
    cases ls with
    | nil => exact absurd rfl hne
    | cons => simp
  · rw [hlen]
    simp only [List.size_toArray]
    have : (catFrom (fun j => seqAt s.heap (ls.getD j 0)) 0 ls.length).size = xss.flatten.length := (hcl.trans Array.length_toList).symm
    omega
  · rw [hlen] at hr
    have hv : Vals (zs ++ xss.flatten) (itz ++ (catFrom (fun j => seqAt s.heap (ls.getD j 0)) 0 ls.length).toList) := rz.append hcat
    refine ⟨.ref p, upd H p (.lst (zs ++ xss.flatten)), I.laid hk hp' ⟨by rw [List.length_append]; exact hsz, _, n', hv, ?_⟩, rfl, q p (I.hok.fresh hp')⟩
    rw [hr]
    congr 3
    apply Array.ext'
    simp
end
end L2

namespace Sw
/-! ties as (one, other, price); directed edges likewise: (a, b, c): from a one goes to b for c -/
abbrev T3 := Nat × Nat × Nat
/-- a way from v to the goal g with k steps for c -/
inductive Way (E : List T3) (g : Nat) : Nat → Nat → Nat → Prop
  | nil : Way E g g 0 0
  | cons {a b p k c : Nat} : (a, b, p) ∈ E → Way E g b k c → Way E g a (k + 1) (p + c)
abbrev Dist := List (Option Nat)
def at? (d : Dist) (v : Nat) : Option Nat := (d[v]?).getD none
/-- one relaxing -/
def relax (d : Dist) (e : T3) : Dist :=
  match at? d e.2.1 with
  | none => d
  | some y => match at? d e.1 with
    | none => d.set e.1 (some (y + e.2.2))
    | some x => if y + e.2.2 < x then d.set e.1 (some (y + e.2.2)) else d
def roundOf (L : List T3) (d : Dist) : Dist := L.foldl relax d
def start (n g : Nat) : Dist := (List.replicate n none).set g (some 0)
def rounds (L : List T3) : Nat → Dist → Dist
  | 0, d => d
  | k + 1, d => rounds L k (roundOf L d)
theorem relax_len (d : Dist) (e : T3) : (relax d e).length = d.length := by
  unfold relax
  split
  · rfl
  · split
    · simp
    · split <;> simp
theorem round_len (L : List T3) : ∀ d, (roundOf L d).length = d.length := by
  induction L with
  | nil => intro d; rfl
  | cons e L ih => intro d; show (roundOf L (relax d e)).length = _; rw [ih, relax_len]
theorem at_set (d : Dist) (v u : Nat) (x : Option Nat) (h : v < d.length) : at? (d.set v x) u = if u = v then x else at? d u := by
  unfold at?
  rw [List.getElem?_set]
  by_cases e : v = u
  · subst e; simp [h]
  · simp [e, Ne.symm e]
/-- le on Option with none the top -/
def Le (x y : Option Nat) : Prop := ∀ c, y = some c → ∃ c', x = some c' ∧ c' ≤ c
theorem Le.refl (x : Option Nat) : Le x x := fun c h => ⟨c, h, Nat.le_refl _⟩
theorem Le.trans {x y z : Option Nat} (h : Le x y) (h' : Le y z) : Le x z := fun c e => by
  obtain ⟨c1, e1, l1⟩ := h' c e
  obtain ⟨c2, e2, l2⟩ := h c1 e1
  exact ⟨c2, e2, Nat.le_trans l2 l1⟩
theorem relax_le (d : Dist) (e : T3) (hl : e.1 < d.length) (v : Nat) : Le (at? (relax d e) v) (at? d v) := by
  unfold relax
  split
  · exact Le.refl _
  · rename_i y hy
    split
    · rename_i hx
      rw [at_set _ _ _ _ hl]
      split
      · rename_i ev; subst ev; intro c hc; rw [hx] at hc; cases hc
      · exact Le.refl _
    · rename_i x hx
      split
      · rename_i lt
        rw [at_set _ _ _ _ hl]
        split
        · rename_i ev; subst ev; intro c hc; rw [hx] at hc; cases hc; exact ⟨_, rfl, Nat.le_of_lt lt⟩
        · exact Le.refl _
      · exact Le.refl _
theorem relax_does (d : Dist) (e : T3) (hl : e.1 < d.length) {y : Nat} (hy : at? d e.2.1 = some y) : Le (at? (relax d e) e.1) (some (y + e.2.2)) := by
  unfold relax
  rw [hy]
  simp only
  split
  · rw [at_set _ _ _ _ hl, if_pos rfl]; exact Le.refl _
  · rename_i x hx
    split
    · rw [at_set _ _ _ _ hl, if_pos rfl]; exact Le.refl _
    · rename_i nl
      intro c hc; cases hc; exact ⟨x, hx, by omega⟩
theorem round_le (L : List T3) : ∀ (d : Dist), (∀ e ∈ L, e.1 < d.length) → ∀ v, Le (at? (roundOf L d) v) (at? d v) := by
  induction L with
  | nil => intro d _ v; exact Le.refl _
  | cons e L ih =>
    intro d h v
    have h1 := relax_le d e (h e List.mem_cons_self) v
    have h2 := ih (relax d e) (fun e' m => by rw [relax_len]; exact h e' (List.mem_cons_of_mem _ m)) v
    exact Le.trans h2 h1
theorem round_does (L : List T3) : ∀ (d : Dist), (∀ e ∈ L, e.1 < d.length) → ∀ e ∈ L, ∀ y, at? d e.2.1 = some y → Le (at? (roundOf L d) e.1) (some (y + e.2.2)) := by
  induction L with
  | nil => intro d _ e m; cases m
  | cons e0 L ih =>
    intro d h e m y hy
    have hr : ∀ e ∈ L, e.1 < (relax d e0).length := fun e' m => by rw [relax_len]; exact h e' (List.mem_cons_of_mem _ m)
    have h1 := relax_le d e0 (h e0 List.mem_cons_self)
    rcases List.mem_cons.mp m with q | q
    · subst q
      have := relax_does d e (h e List.mem_cons_self) hy
      exact Le.trans (round_le L _ hr e.1) this
    · obtain ⟨y', e1, l1⟩ := h1 e.2.1 y hy
      obtain h2 := ih (relax d e0) hr e q y' e1
      intro c hc
      cases hc
      obtain ⟨c', e2, l2⟩ := h2 _ rfl
      exact ⟨c', e2, by omega⟩
/-- soundness -/
def Sound (E : List T3) (g : Nat) (d : Dist) : Prop := ∀ v c, at? d v = some c → ∃ k, Way E g v k c
theorem relax_sound {E : List T3} {g : Nat} {d : Dist} {e : T3} (he : e ∈ E) (hl : e.1 < d.length) (s : Sound E g d) : Sound E g (relax d e) := by
  intro v c hv
  unfold relax at hv
  split at hv
  · exact s v c hv
  · rename_i y hy
    obtain ⟨k, wk⟩ := s _ _ hy
    have ws : ∃ k, Way E g e.1 k (y + e.2.2) := ⟨k + 1, by rw [Nat.add_comm y]; exact Way.cons he wk⟩
    split at hv
    · rw [at_set _ _ _ _ hl] at hv
      split at hv
      · rename_i ev; subst ev; cases hv; exact ws
      · exact s v c hv
    · split at hv
      · rw [at_set _ _ _ _ hl] at hv
        split at hv
        · rename_i ev; subst ev; cases hv; exact ws
        · exact s v c hv
      · exact s v c hv
theorem round_sound {E : List T3} {g : Nat} (L : List T3) : ∀ (d : Dist), (∀ e ∈ L, e ∈ E) → (∀ e ∈ L, e.1 < d.length) → Sound E g d → Sound E g (roundOf L d) := by
  induction L with
  | nil => intro d _ _ s; exact s
  | cons e L ih =>
    intro d h1 h2 s
    exact ih (relax d e) (fun e' m => h1 e' (List.mem_cons_of_mem _ m)) (fun e' m => by rw [relax_len]; exact h2 e' (List.mem_cons_of_mem _ m)) (relax_sound (h1 e List.mem_cons_self) (h2 e List.mem_cons_self) s)
/-- below every way of at most k steps -/
def Below (E : List T3) (g k : Nat) (d : Dist) : Prop := ∀ v j c, j ≤ k → Way E g v j c → Le (at? d v) (some c)
theorem round_below {E : List T3} {g k : Nat} (L : List T3) (d : Dist) (h1 : ∀ e ∈ E, e ∈ L) (h2 : ∀ e ∈ L, e.1 < d.length) (b : Below E g k d) : Below E g (k + 1) (roundOf L d) := by
  intro v j c hj w
  cases w with
  | nil => exact Le.trans (round_le L d h2 _) (b _ 0 0 (Nat.zero_le _) Way.nil)
  | @cons _ u p j' c' he w' =>
    obtain ⟨y, e1, l1⟩ := b u j' c' (by omega) w' _ rfl
    obtain ⟨z, e2, l2⟩ := round_does L d h2 _ (h1 _ he) y e1 _ rfl
    intro c2 hc2
    cases hc2
    refine ⟨z, e2, ?_⟩
    simp only at l2
    omega
theorem rounds_len (L : List T3) : ∀ k d, (rounds L k d).length = d.length := by
  intro k
  induction k with
  | zero => intro d; rfl
  | succ k ih => intro d; show (rounds L k (roundOf L d)).length = _; rw [ih, round_len]
theorem rounds_ok {E : List T3} {g : Nat} (L : List T3) (h0 : ∀ e, e ∈ E ↔ e ∈ L) : ∀ (k j : Nat) (d : Dist), (∀ e ∈ L, e.1 < d.length) → Sound E g d → Below E g j d → Sound E g (rounds L k d) ∧ Below E g (j + k) (rounds L k d) := by
  intro k
  induction k with
  | zero => intro j d _ s b; exact ⟨s, b⟩
  | succ k ih =>
    intro j d h s b
    have := ih (j + 1) (roundOf L d) (fun e m => by rw [round_len]; exact h e m) (round_sound L d (fun e m => (h0 e).mpr m) h s) (round_below L d (fun e m => (h0 e).mp m) h b)
    rw [show j + (k + 1) = j + 1 + k by omega]
    exact this
theorem rounds_succ (L : List T3) : ∀ k d, rounds L (k + 1) d = roundOf L (rounds L k d) := by
  intro k
  induction k with
  | zero => intro d; rfl
  | succ k ih => intro d; show rounds L (k + 1) (roundOf L d) = _; rw [ih]; rfl
/-! a way without a house twice -/
/-- no more than n different numbers below n -/
theorem nodup_le : ∀ (n : Nat) (l : List Nat), l.Nodup → (∀ x ∈ l, x < n) → l.length ≤ n := by
  intro n
  induction n with
  | zero =>
    intro l _ h
    cases l with
    | nil => simp
    | cons a l => exact absurd (h a List.mem_cons_self) (by omega)
  | succ n ih =>
    intro l nd h
    have h1 := ih (l.erase n) (nd.erase _) (fun x m => by
      have := h x (List.mem_of_mem_erase m)
      have hne : x ≠ n := fun q => by
        subst q
        exact (List.Nodup.not_mem_erase nd) m
      omega)
    have h2 : l.length ≤ (l.erase n).length + 1 := by
      rw [List.length_erase]
      split <;> omega
    omega
/-- the houses of a way (the goal left out) -/
inductive WayL (E : List T3) (g : Nat) : Nat → List Nat → Nat → Prop
  | nil : WayL E g g [] 0
  | cons {a b p c : Nat} {l : List Nat} : (a, b, p) ∈ E → WayL E g b l c → WayL E g a (a :: l) (p + c)
theorem Way.toL {E : List T3} {g v k c : Nat} (w : Way E g v k c) : ∃ l, WayL E g v l c ∧ l.length = k := by
  induction w with
  | nil => exact ⟨[], .nil, rfl⟩
  | cons he _ ih => obtain ⟨l, w, e⟩ := ih; exact ⟨_, .cons he w, by simp [e]⟩
theorem WayL.toW {E : List T3} {g v c : Nat} {l : List Nat} (w : WayL E g v l c) : Way E g v l.length c := by
  induction w with
  | nil => exact .nil
  | cons he _ ih => exact .cons he ih
/-- from a house on the way on -/
theorem WayL.from {E : List T3} {g v c : Nat} {l : List Nat} (w : WayL E g v l c) (nd : l.Nodup) : ∀ u ∈ l, ∃ l' c', WayL E g u l' c' ∧ c' ≤ c ∧ l'.Nodup ∧ ∀ x ∈ l', x ∈ l := by
  induction w with
  | nil => intro u m; cases m
  | @cons a b p c l he w ih =>
    intro u m
    rcases List.mem_cons.mp m with q | q
    · subst q; exact ⟨_, _, .cons he w, Nat.le_refl _, nd, fun x m => m⟩
    · obtain ⟨l', c', w', le, nd', sub⟩ := ih (List.nodup_cons.mp nd).2 u q
      exact ⟨l', c', w', by omega, nd', fun x m => List.mem_cons_of_mem _ (sub x m)⟩
theorem WayL.simple {E : List T3} {g v c : Nat} {l : List Nat} (w : WayL E g v l c) : ∃ l' c', WayL E g v l' c' ∧ c' ≤ c ∧ l'.Nodup ∧ g ∉ l' := by
  induction w with
  | nil => exact ⟨[], 0, .nil, Nat.le_refl _, List.nodup_nil, by simp⟩
  | @cons a b p c l he w ih =>
    obtain ⟨l', c', w', le, nd, ng⟩ := ih
    by_cases hg : a = g
    · subst hg; exact ⟨[], 0, .nil, Nat.zero_le _, List.nodup_nil, by simp⟩
    · by_cases ha : a ∈ l'
      · obtain ⟨l2, c2, w2, le2, nd2, sub⟩ := w'.from nd a ha
        exact ⟨l2, c2, w2, by omega, nd2, fun m => ng (sub _ m)⟩
      · exact ⟨a :: l', p + c', .cons he w', by omega, List.nodup_cons.mpr ⟨ha, nd⟩, fun m => by
          rcases List.mem_cons.mp m with q | q
          · exact hg q.symm
          · exact ng q⟩
theorem WayL.lt {E : List T3} {g v c n : Nat} {l : List Nat} (w : WayL E g v l c) (hE : ∀ e ∈ E, e.1 < n) : ∀ x ∈ l, x < n := by
  induction w with
  | nil => intro x m; cases m
  | cons he _ ih =>
    intro x m
    rcases List.mem_cons.mp m with q | q
    · subst q; exact hE _ he
    · exact ih x q
theorem way_short {E : List T3} {g v k c n : Nat} (hE : ∀ e ∈ E, e.1 < n) (w : Way E g v k c) : ∃ k' c', k' ≤ n ∧ c' ≤ c ∧ Way E g v k' c' := by
  obtain ⟨l, wl, _⟩ := w.toL
  obtain ⟨l', c', w', le, nd, _⟩ := wl.simple
  exact ⟨l'.length, c', nodup_le n l' nd (w'.lt hE), le, w'.toW⟩
/-- what the list of least prices is -/
structure IsFar (E : List T3) (n g : Nat) (d : Dist) : Prop where
  len : d.length = n
  way : Sound E g d
  least : ∀ v k c, Way E g v k c → Le (at? d v) (some c)
theorem start_at (n g v : Nat) (hg : g < n) : at? (start n g) v = if v = g then some 0 else none := by
  unfold start
  rw [at_set _ _ _ _ (by simpa using hg)]
  split
  · rfl
  · unfold at?
    rw [List.getElem?_replicate]
    split <;> rfl
theorem far_is {E : List T3} {n g : Nat} (L : List T3) (h0 : ∀ e, e ∈ E ↔ e ∈ L) (hE : ∀ e ∈ E, e.1 < n) (hg : g < n) : IsFar E n g (rounds L n (start n g)) := by
  have hs : (start n g).length = n := by simp [start]
  have h := rounds_ok (E := E) (g := g) L h0 n 0 (start n g) (fun e m => by rw [hs]; exact hE e ((h0 e).mpr m))
    (fun v c h => by
      rw [start_at _ _ _ hg] at h
      split at h
      · rename_i q; subst q; cases h; exact ⟨0, .nil⟩
      · cases h)
    (fun v j c hj w => by
      have : j = 0 := by omega
      subst this
      cases w
      rw [start_at _ _ _ hg, if_pos rfl]
      exact Le.refl _)
  refine ⟨by rw [rounds_len, hs], h.1, fun v k c w => ?_⟩
  obtain ⟨k', c', hk, hc, w'⟩ := way_short hE w
  obtain ⟨z, e, l⟩ := h.2 v k' c' (by omega) w' _ rfl
  intro c2 e2
  cases e2
  exact ⟨z, e, by omega⟩
theorem far_one {E : List T3} {n g : Nat} {d d' : Dist} (h : IsFar E n g d) (h' : IsFar E n g d') : d = d' := by
  have key : ∀ v, at? d v = at? d' v := fun v => by
    cases e : at? d v with
    | none =>
      cases e' : at? d' v with
      | none => rfl
      | some c' =>
        obtain ⟨k, w⟩ := h'.way _ _ e'
        obtain ⟨z, ez, _⟩ := h.least _ _ _ w _ rfl
        rw [e] at ez; cases ez
    | some c =>
      obtain ⟨k, w⟩ := h.way _ _ e
      obtain ⟨z, ez, lz⟩ := h'.least _ _ _ w _ rfl
      obtain ⟨k2, w2⟩ := h'.way _ _ ez
      obtain ⟨z2, ez2, lz2⟩ := h.least _ _ _ w2 _ rfl
      rw [e] at ez2; cases ez2
      rw [ez]
      congr 1
      omega
  refine List.ext_getElem? fun i => ?_
  by_cases hi : i < n
  · have a1 : i < d.length := by rw [h.len]; exact hi
    have a2 : i < d'.length := by rw [h'.len]; exact hi
    have := key i
    unfold at? at this
    rw [List.getElem?_eq_getElem a1, List.getElem?_eq_getElem a2] at this ⊢
    simpa using this
  · rw [List.getElem?_eq_none (by rw [h.len]; omega), List.getElem?_eq_none (by rw [h'.len]; omega)]
theorem far_cong {E E' : List T3} {n g : Nat} {d : Dist} (he : ∀ e, e ∈ E ↔ e ∈ E') (h : IsFar E n g d) : IsFar E' n g d := by
  have tr : ∀ {A B : List T3}, (∀ e, e ∈ A → e ∈ B) → ∀ {v k c}, Way A g v k c → Way B g v k c := by
    intro A B hs v k c w
    induction w with
    | nil => exact .nil
    | cons m _ ih => exact .cons (hs _ m) ih
  exact ⟨h.len, fun v c e => by obtain ⟨k, w⟩ := h.way v c e; exact ⟨k, tr (fun e m => (he e).mp m) w⟩, fun v k c w => h.least v k c (tr (fun e m => (he e).mpr m) w)⟩
end Sw
namespace Sw
/-- u is a next house of h: just so much nearer -/
def Cand (E : List T3) (d : Dist) (h u : Nat) : Prop := ∃ c y, (h, u, c) ∈ E ∧ at? d u = some y ∧ at? d h = some (y + c)
def IsNext (E : List T3) (d : Dist) (g h : Nat) : Option Nat → Prop
  | none => h = g ∨ at? d h = none
  | some u => h ≠ g ∧ at? d h ≠ none ∧ Cand E d h u ∧ ∀ v, Cand E d h v → u ≤ v
theorem next_one {E : List T3} {d : Dist} {g h : Nat} : ∀ {x y : Option Nat}, IsNext E d g h x → IsNext E d g h y → x = y
  | none, none, _, _ => rfl
  | none, some u, h1, h2 => by
    rcases h1 with q | q
    · exact absurd q h2.1
    · exact absurd q h2.2.1
  | some u, none, h1, h2 => by
    rcases h2 with q | q
    · exact absurd q h1.1
    · exact absurd q h1.2.1
  | some u, some v, h1, h2 => by
    have a := h1.2.2.2 v h2.2.2.1
    have b := h2.2.2.2 u h1.2.2.1
    rw [Nat.le_antisymm a b]
theorem cand_cong {E E' : List T3} (he : ∀ e, e ∈ E ↔ e ∈ E') {d : Dist} {h u : Nat} : Cand E d h u ↔ Cand E' d h u :=
  ⟨fun ⟨c, y, a, b⟩ => ⟨c, y, (he _).mp a, b⟩, fun ⟨c, y, a, b⟩ => ⟨c, y, (he _).mpr a, b⟩⟩
theorem next_cong {E E' : List T3} (he : ∀ e, e ∈ E ↔ e ∈ E') {d : Dist} {g h : Nat} : ∀ {x : Option Nat}, IsNext E d g h x → IsNext E' d g h x
  | none, a => a
  | some u, a => ⟨a.1, a.2.1, (cand_cong he).mp a.2.2.1, fun v hv => a.2.2.2 v ((cand_cong he).mpr hv)⟩
theorem far_goal {E : List T3} {n g : Nat} {d : Dist} (f : IsFar E n g d) : at? d g = some 0 := by
  obtain ⟨c, e, l⟩ := f.least g 0 0 .nil 0 rfl
  rw [e]
  congr 1
  omega
theorem cand_ex {E : List T3} {n g h c : Nat} {d : Dist} (f : IsFar E n g d) (hg : h ≠ g) (hc : at? d h = some c) : ∃ u, Cand E d h u := by
  obtain ⟨k, w⟩ := f.way h c hc
  cases w with
  | nil => exact absurd rfl hg
  | @cons _ u p k' c' he w' =>
    obtain ⟨y, ey, ly⟩ := f.least u k' c' w' _ rfl
    obtain ⟨k2, w2⟩ := f.way u y ey
    obtain ⟨z, ez, lz⟩ := f.least h (k2 + 1) (p + y) (.cons he w2) _ rfl
    rw [hc] at ez
    cases ez
    refine ⟨u, p, y, he, ey, ?_⟩
    rw [hc]
    congr 1
    omega
theorem near_some {E : List T3} {n g h u c : Nat} {d : Dist} (f : IsFar E n g d) (hs : ∀ a b c, (a, b, c) ∈ E → (b, a, c) ∈ E) (he : (h, u, c) ∈ E) (hh : at? d h ≠ none) : ∃ y, at? d u = some y := by
  cases e : at? d h with
  | none => exact absurd e hh
  | some z =>
    obtain ⟨k, w⟩ := f.way h z e
    obtain ⟨y, ey, _⟩ := f.least u (k + 1) (c + z) (.cons (hs _ _ _ he) w) _ rfl
    exact ⟨y, ey⟩
/-- whether a neighbour (house, price) is just so much nearer -/
def test (d : Dist) (h : Nat) (q : Nat × Nat) : Bool := match at? d q.1 with
  | some y => decide (at? d h = some (y + q.2))
  | none => false
def candL (d : Dist) (h : Nat) (L : List (Nat × Nat)) : List Nat := (L.filter (test d h)).map (·.1)
theorem candL_mem {E : List T3} {d : Dist} {h : Nat} {L : List (Nat × Nat)} (hL : ∀ u c, (u, c) ∈ L ↔ (h, u, c) ∈ E) (u : Nat) : u ∈ candL d h L ↔ Cand E d h u := by
  unfold candL
  rw [List.mem_map]
  constructor
  · rintro ⟨q, hq, rfl⟩
    obtain ⟨m, t⟩ := List.mem_filter.mp hq
    unfold test at t
    cases e : at? d q.1 with
    | none => rw [e] at t; cases t
    | some y =>
      rw [e] at t
      exact ⟨q.2, y, (hL _ _).mp m, e, of_decide_eq_true t⟩
  · rintro ⟨c, y, m, e, t⟩
    refine ⟨(u, c), List.mem_filter.mpr ⟨(hL _ _).mpr m, ?_⟩, rfl⟩
    unfold test
    rw [e]
    exact decide_eq_true t
def nbr (ts : List T3) (h : Nat) : List (Nat × Nat) := ts.flatMap fun e => (if e.1 = h then [(e.2.1, e.2.2)] else []) ++ (if e.2.1 = h then [(e.1, e.2.2)] else [])
theorem nbr_mem (ts : List T3) (h u c : Nat) : (u, c) ∈ nbr ts h ↔ ((h, u, c) ∈ ts ∨ (u, h, c) ∈ ts) := by
  unfold nbr
  rw [List.mem_flatMap]
  constructor
  · rintro ⟨⟨a, b, p⟩, m, q⟩
    rcases List.mem_append.mp q with q | q
    · split at q
      · rename_i e; simp at q e; obtain ⟨rfl, rfl⟩ := q; subst e; exact .inl m
      · cases q
    · split at q
      · rename_i e; simp at q e; obtain ⟨rfl, rfl⟩ := q; subst e; exact .inr m
      · cases q
  · rintro (m | m)
    · exact ⟨_, m, by simp⟩
    · exact ⟨_, m, by simp⟩
theorem nbr_snoc (ts : List T3) (e : T3) (h : Nat) : nbr (ts ++ [e]) h = nbr ts h ++ ((if e.1 = h then [(e.2.1, e.2.2)] else []) ++ (if e.2.1 = h then [(e.1, e.2.2)] else [])) := by
  unfold nbr
  rw [List.flatMap_append]
  simp
theorem nbr_len (ts : List T3) (h : Nat) : (nbr ts h).length ≤ 2 * ts.length := by
  induction ts with
  | nil => simp [nbr]
  | cons e ts ih =>
    have : nbr (e :: ts) h = ((if e.1 = h then [(e.2.1, e.2.2)] else []) ++ (if e.2.1 = h then [(e.1, e.2.2)] else [])) ++ nbr ts h := rfl
    rw [this, List.length_append, List.length_append]
    have h1 : (if e.1 = h then [(e.2.1, e.2.2)] else []).length ≤ 1 := by split <;> simp
    have h2 : (if e.2.1 = h then [(e.1, e.2.2)] else []).length ≤ 1 := by split <;> simp
    simp only [List.length_cons]
    omega
theorem candL_snoc (d : Dist) (h : Nat) (L : List (Nat × Nat)) (q : Nat × Nat) : candL d h (L ++ [q]) = candL d h L ++ (if test d h q = true then [q.1] else []) := by
  unfold candL
  rw [List.filter_append, List.map_append]
  congr 1
  simp only [List.filter_cons, List.filter_nil]
  split <;> rfl
theorem candL_len (d : Dist) (h : Nat) (L : List (Nat × Nat)) : (candL d h L).length ≤ L.length := by
  unfold candL
  rw [List.length_map]
  exact List.length_filter_le _ _
end Sw
namespace Sw
def fl1 (ts : List T3) (h : Nat) : List (Nat × Nat) := ts.flatMap fun e => if e.1 = h then [(e.2.1, e.2.2)] else []
def fl2 (ts : List T3) (h : Nat) : List (Nat × Nat) := ts.flatMap fun e => if e.2.1 = h then [(e.1, e.2.2)] else []
theorem fl1_snoc (ts : List T3) (e : T3) (h : Nat) : fl1 (ts ++ [e]) h = fl1 ts h ++ (if e.1 = h then [(e.2.1, e.2.2)] else []) := by
  unfold fl1; rw [List.flatMap_append]; simp
theorem fl2_snoc (ts : List T3) (e : T3) (h : Nat) : fl2 (ts ++ [e]) h = fl2 ts h ++ (if e.2.1 = h then [(e.1, e.2.2)] else []) := by
  unfold fl2; rw [List.flatMap_append]; simp
theorem fl_mem (ts : List T3) (h u c : Nat) : (u, c) ∈ fl1 ts h ++ fl2 ts h ↔ ((h, u, c) ∈ ts ∨ (u, h, c) ∈ ts) := by
  rw [List.mem_append]
  unfold fl1 fl2
  rw [List.mem_flatMap, List.mem_flatMap]
  constructor
  · rintro (⟨⟨a, b, p⟩, m, q⟩ | ⟨⟨a, b, p⟩, m, q⟩)
    · split at q
      · rename_i e; simp at q e; obtain ⟨rfl, rfl⟩ := q; subst e; exact .inl m
      · cases q
    · split at q
      · rename_i e; simp at q e; obtain ⟨rfl, rfl⟩ := q; subst e; exact .inr m
      · cases q
  · rintro (m | m)
    · exact .inl ⟨_, m, by simp⟩
    · exact .inr ⟨_, m, by simp⟩
theorem fl1_len (ts : List T3) (h : Nat) : (fl1 ts h).length ≤ ts.length := by
  induction ts with
  | nil => simp [fl1]
  | cons e ts ih =>
    have : fl1 (e :: ts) h = (if e.1 = h then [(e.2.1, e.2.2)] else []) ++ fl1 ts h := rfl
    rw [this, List.length_append]
    have h1 : (if e.1 = h then [(e.2.1, e.2.2)] else []).length ≤ 1 := by split <;> simp
    simp only [List.length_cons]
    omega
theorem fl2_len (ts : List T3) (h : Nat) : (fl2 ts h).length ≤ ts.length := by
  induction ts with
  | nil => simp [fl2]
  | cons e ts ih =>
    have : fl2 (e :: ts) h = (if e.2.1 = h then [(e.1, e.2.2)] else []) ++ fl2 ts h := rfl
    rw [this, List.length_append]
    have h1 : (if e.2.1 = h then [(e.1, e.2.2)] else []).length ≤ 1 := by split <;> simp
    simp only [List.length_cons]
    omega
end Sw
namespace Sw
/-- the told way, house by house -/
inductive WayTo (E : List T3) (d : Dist) (g : Nat) : Nat → List Nat → Prop
  | here : WayTo E d g g [g]
  | step {h u : Nat} {l : List Nat} : IsNext E d g h (some u) → WayTo E d g u l → WayTo E d g h (h :: l)
theorem wayto_one {E : List T3} {d : Dist} {g h : Nat} {l l' : List Nat} (a : WayTo E d g h l) (b : WayTo E d g h l') : l = l' := by
  induction a generalizing l' with
  | here =>
    cases b with
    | here => rfl
    | step i _ => exact absurd rfl i.1
  | step i _ ih =>
    cases b with
    | here => exact absurd rfl i.1
    | step j r =>
      have e := next_one i j
      cases e
      rw [ih r]
theorem way_cost {E : List T3} {g v k c : Nat} (h : ∀ e ∈ E, e.2.2 ≤ 9) (w : Way E g v k c) : c ≤ 9 * k := by
  induction w with
  | nil => exact Nat.le_refl _
  | cons he _ ih =>
    have := h _ he
    simp only at this
    omega
theorem far_small {E : List T3} {n g v c : Nat} {d : Dist} (f : IsFar E n g d) (hE : ∀ e ∈ E, e.1 < n) (h9 : ∀ e ∈ E, e.2.2 ≤ 9) (e : at? d v = some c) : c ≤ 9 * n := by
  obtain ⟨k, w⟩ := f.way v c e
  obtain ⟨k', c', hk, hc, w'⟩ := way_short hE w
  obtain ⟨z, ez, lz⟩ := f.least v k' c' w' _ rfl
  rw [e] at ez
  cases ez
  have := way_cost h9 w'
  have : 9 * k' ≤ 9 * n := Nat.mul_le_mul_left 9 hk
  omega
/-- all houses that a list of prices reaches, rising -/
def lotOf (n : Nat) (d : Dist) : List Nat := (List.range n).filter fun h => (at? d h).isSome
end Sw

namespace K
open PySem PySem.Spec PyProof.Rows L2
/-- all but p stands as it stood -/
def But (p : Addr) (H H' : Hp) : Prop := ∀ b o, H b = some o → b ≠ p → H' b = some o
theorem But.refl (p : Addr) (H : Hp) : But p H H := fun _ _ e _ => e
theorem But.trans {p : Addr} {H H1 H2 : Hp} (a : But p H H1) (b : But p H1 H2) : But p H H2 := fun c o e hc => b c o (a c o e hc) hc
theorem But.of_same {p : Addr} {H H' : Hp} (s : Same H H') : But p H H' := fun b o e _ => s b o e
theorem But.put {p : Addr} {H : Hp} {o : HO} : But p H (upd H p o) := fun b u e hb => by rw [upd_ne hb]; exact e
theorem same_upd {H : Hp} {p : Addr} {o : HO} (h : H p = none) : Same H (upd H p o) := fun b x e => by
  rw [upd_ne (ne_of_none e h)]
  exact e
/-- the box of the draws at p, its list of cells at q -/
def BoxAt (H : Hp) (p q : Addr) : Prop := ∃ (ns : List Int) (i t s : Int), H p = some (.lst [.ref q, .int i, .int t, .int s]) ∧ H q = some (.lst (ns.map V.int)) ∧ 0 ≤ i ∧ i ≤ ns.length ∧ 0 ≤ s ∧ s < 2147483549 ∧ ns.length ≤ 63
theorem BoxAt.ne {H : Hp} {p q : Addr} (h : BoxAt H p q) : p ≠ q := by
  obtain ⟨ns, i, t, s, h1, h2, _⟩ := h
  refine ne_of h1 h2 fun e => ?_
  cases ns with
  | nil => cases e
  | cons n ns => injection e with e; injection e with e1 e2; cases e1
theorem BoxAt.at {H H' : Hp} {p q : Addr} (h : BoxAt H p q) (h1 : ∀ o, H p = some o → H' p = some o) (h2 : ∀ o, H q = some o → H' q = some o) : BoxAt H' p q := by
  obtain ⟨ns, i, t, s, e1, e2, r⟩ := h
  exact ⟨ns, i, t, s, h1 _ e1, h2 _ e2, r⟩
theorem BoxAt.same {H H' : Hp} {p q : Addr} (h : BoxAt H p q) (s : Same H H') : BoxAt H' p q := h.at (fun o e => s _ o e) (fun o e => s _ o e)
theorem BoxAt.p_some {H : Hp} {p q : Addr} (h : BoxAt H p q) : ∃ o, H p = some o := by
  obtain ⟨ns, i, t, s, e1, e2, r⟩ := h
  exact ⟨_, e1⟩
theorem BoxAt.q_some {H : Hp} {p q : Addr} (h : BoxAt H p q) : ∃ o, H q = some o := by
  obtain ⟨ns, i, t, s, e1, e2, r⟩ := h
  exact ⟨_, e2⟩
/-- another object than the box's own two is written -/
theorem BoxAt.put {H : Hp} {p q l : Addr} {o : HO} (h : BoxAt H p q) (hp : l ≠ p) (hq : l ≠ q) : BoxAt (upd H l o) p q :=
  h.at (fun o e => by rw [upd_ne (Ne.symm hp)]; exact e) (fun o e => by rw [upd_ne (Ne.symm hq)]; exact e)
theorem BoxAt.putN {H : Hp} {p q l : Addr} {o : HO} (h : BoxAt H p q) (hl : H l = none) : BoxAt (upd H l o) p q := h.same (same_upd hl)
theorem fmod_le {a n : Int} (hn : 0 < n) : 0 ≤ a.fmod n ∧ a.fmod n < n := by
  rw [Int.fmod_eq_emod_of_nonneg _ (Int.le_of_lt hn)]
  exact ⟨Int.emod_nonneg _ (by omega), Int.emod_lt_of_pos _ hn⟩
/-- _law_box(script) -/
def spBox (K : PySem.W.Frag) : Sp := fun vs H Q _ => ∃ (a : Addr) (ns : List Int), vs = [.ref a] ∧ SqL K H a (ns.map V.int) ∧ ns.length ≤ 63 ∧ ∀ (p q : Addr) (H' : Hp), H p = none → H q = none → BoxAt H' p q → Same H H' → Q (.ref p) H'
/-- _law_take(box, sides): a number below sides; the box is a box again -/
def spTake : Sp := fun vs H Q _ => ∃ (p q : Addr) (n : Int), vs = [.ref p, .int n] ∧ BoxAt H p q ∧ 0 < n ∧ n < 1073741824 ∧ ∀ (r : Int) (H' : Hp), 0 ≤ r → r < n → BoxAt H' p q → But p H H' → Q (.int r) H'
theorem atI0 {α : Type} {xs : List α} {i : Int} {v : α} (h0 : 0 ≤ i) (h : xs[i.toNat]? = some v) : atI xs i = some v := by
  have := atI_nat (j := i.toNat) h
  rwa [Int.toNat_of_nonneg h0] at this
end K
namespace K
open PySem PySem.Spec PyProof.Rows L2
/-- None, bools, ints, texts -/
def flat : V → Bool
  | .non | .bl _ | .int _ | .str _ => true
  | _ => false
/-- the same data, of less than n levels -/
def Eqv : Nat → Hp → V → V → Prop
  | 0, _, _, _ => False
  | n + 1, H, x, y => (x = y ∧ flat x = true) ∨ ∃ (a b : Addr) (xs ys : List V), x = .ref a ∧ y = .ref b ∧ ((H a = some (.lst xs) ∧ H b = some (.lst ys)) ∨ (H a = some (.tup xs) ∧ H b = some (.tup ys))) ∧ xs.length = ys.length ∧ xs.length ≤ 1000 ∧
      ∀ (i : Nat) (u v : V), xs[i]? = some u → ys[i]? = some v → Eqv n H u v
theorem Eqv.same {H H' : Hp} (s : Same H H') : ∀ {n : Nat} {x y : V}, Eqv n H x y → Eqv n H' x y
  | n + 1, x, y, h => by
    rcases h with h | ⟨a, b, xs, ys, e1, e2, h, hl, hz, hi⟩
    · exact .inl h
    · refine .inr ⟨a, b, xs, ys, e1, e2, ?_, hl, hz, fun i u v hu hv => (hi i u v hu hv).same s⟩
      rcases h with ⟨h1, h2⟩ | ⟨h1, h2⟩
      · exact .inl ⟨s _ _ h1, s _ _ h2⟩
      · exact .inr ⟨s _ _ h1, s _ _ h2⟩
def spSame (n : Nat) : Sp := fun vs H Q _ => ∃ (x y : V), vs = [x, y] ∧ Eqv n H x y ∧ ∀ H', Same H H' → Q (.bl true) H'
theorem kit2 {K : PySem.W.Frag} {t T U : String} {b c : Bool} (h : kitB t T = some b) (h2 : kitB t U = some c) : PySem.W.kitAny K (.type t) [.type T, .type U] = some (b || c) := by
  refine kitAny_cons (kit_ty h) (fun e => ?_) (fun e => by rw [e]; rfl)
  subst e
  refine kitAny_cons (kit_ty h2) (fun e => ?_) (fun e => by rw [e]; rfl)
  subst e
  exact kitAny_nil
theorem walk_zipTT {K : PySem.W.Frag} {a b : Addr} {xs ys : List V} {n : Nat} (hn : n = min xs.length ys.length) : Walk (RZ.ItzT K a b) n (fun H => SqT K H a xs ∧ SqT K H b ys) (YPair (fun i => xs[i]?) (fun i => ys[i]?)) := by
  subst hn
  refine ⟨fun i _ hi q => ?_, fun _ q => ⟨xs, ys, q.1, q.2, by omega⟩, fun i H v H' _ q y => ?_⟩
  · have h1 : i < xs.length := by omega
    have h2 : i < ys.length := by omega
    exact ⟨xs, ys, xs[i], ys[i], q.1, q.2, by simp [h1], by simp [h2]⟩
  · obtain ⟨T, x, z, h1, h2, h3, h4, h5⟩ := y
    exact ⟨T, x, z, h1, h2, h3, h4 xs q.1, h5 ys q.2⟩
theorem fnok_never {P : Program} {w : World} {K : PySem.W.Frag} {mg : Str → Option Value} {base : Heap} {f : Addr} {fd : FuncData} {ps : List Str} {sp : Sp} {k : Nat} (h : ∀ vs H Q E, ¬ sp vs H Q E) : FnOk P w K mg base CX0 k f fd ps sp :=
  ⟨fun vs H Q E q => (h _ _ _ _ q).elim, fun A outer s H args us vs Q E hr he hb hv hs => (h _ _ _ _ hs).elim⟩
end K
namespace K
open PySem PySem.Spec PyProof.Rows L2
open Sw (T3 Dist at? relax roundOf rounds)
/-- a tie as it stands in a tuple -/
def tv (e : T3) : List V := [.int (e.1 : Nat), .int (e.2.1 : Nat), .int (e.2.2 : Nat)]
/-- a list of ties -/
def TiesAt (H : Hp) (t : Addr) (ts : List T3) : Prop := ∃ as : List Addr, H t = some (.lst (as.map V.ref)) ∧ Paired (fun a e => H a = some (.tup (tv e))) as ts
theorem paired_mono {α β : Type} {R R' : α → β → Prop} (h : ∀ a b, R a b → R' a b) : ∀ {xs : List α} {ys : List β}, Paired R xs ys → Paired R' xs ys
  | _, _, .nil => .nil
  | _, _, .cons r t => .cons (h _ _ r) (paired_mono h t)
theorem paired_len {α β : Type} {R : α → β → Prop} : ∀ {xs : List α} {ys : List β}, Paired R xs ys → xs.length = ys.length
  | _, _, .nil => rfl
  | _, _, .cons r t => by simp [paired_len t]
theorem TiesAt.same {H H' : Hp} {t : Addr} {ts : List T3} (h : TiesAt H t ts) (s : Same H H') : TiesAt H' t ts := by
  obtain ⟨as, h1, h2⟩ := h
  exact ⟨as, s _ _ h1, paired_mono (fun a e q => s _ _ q) h2⟩
/-- a price or None -/
def ov : Option Nat → V
  | none => .non
  | some n => .int (n : Nat)
/-- a list of prices stands at p -/
def DistAt (H : Hp) (p : Addr) (d : Dist) : Prop := H p = some (.lst (d.map ov))
theorem at_of {d : Dist} {v : Nat} (h : v < d.length) : (d.map ov)[v]? = some (ov (at? d v)) := by
  rw [List.getElem?_map, List.getElem?_eq_getElem h]
  unfold at?
  rw [List.getElem?_eq_getElem h]
  rfl
theorem set_ov (d : Dist) (v : Nat) (x : Option Nat) : (d.map ov).set v (ov x) = (d.set v x).map ov := by rw [List.map_set]
theorem ixN_nat {n j : Nat} (h : j < n) : ixN n (j : Int) = some j := by
  unfold ixN
  rw [if_pos (by omega), if_pos (by omega), Int.toNat_natCast]
/-- the ties both ways about, tie by tie -/
def both (ts : List T3) : List T3 := ts.flatMap fun e => [e, (e.2.1, e.1, e.2.2)]
theorem both_mem (ts : List T3) (e : T3) : e ∈ both ts ↔ (e ∈ ts ∨ (e.2.1, e.1, e.2.2) ∈ ts) := by
  unfold both
  rw [List.mem_flatMap]
  constructor
  · rintro ⟨x, hx, m⟩
    simp only [List.mem_cons, List.not_mem_nil, or_false] at m
    rcases m with q | q
    · exact .inl (q ▸ hx)
    · subst q; exact .inr hx
  · rintro (h | h)
    · exact ⟨e, h, by simp⟩
    · exact ⟨_, h, by simp⟩
/-- the least prices, as they are reckoned tie by tie -/
def farD (n : Nat) (ts : List T3) (g : Nat) : Dist := rounds (both ts) n (Sw.start n g)
/-- the ties lie below n -/
def Fits (n : Nat) (ts : List T3) : Prop := ∀ e ∈ ts, e.1 < n ∧ e.2.1 < n
theorem both_lt {n : Nat} {ts : List T3} (h : Fits n ts) : ∀ e ∈ both ts, e.1 < n ∧ e.2.1 < n := fun e m => by
  rcases (both_mem ts e).mp m with q | q
  · exact h e q
  · have := h _ q
    exact ⟨this.2, this.1⟩
theorem farD_is {n g : Nat} {ts : List T3} (h : Fits n ts) (hg : g < n) : Sw.IsFar (both ts) n g (farD n ts g) := Sw.far_is (both ts) (fun _ => Iff.rfl) (fun e m => (both_lt h e m).1) hg
def spCheck : Sp := fun vs H Q _ => ∃ (n g : Nat), vs = [.int (n : Nat), .int (g : Nat)] ∧ g < n ∧ Q .non H
def spCheap : Sp := fun vs H Q _ => ∃ (p : Addr) (d : Dist) (a b c : Nat), vs = [.ref p, .int (a : Nat), .int (b : Nat), .int (c : Nat)] ∧ DistAt H p d ∧ a < d.length ∧ b < d.length ∧ ∀ H', DistAt H' p (relax d (a, b, c)) → But p H H' → Q .non H'
def spFar : Sp := fun vs H Q _ => ∃ (n g : Nat) (t : Addr) (ts : List T3), vs = [.int (n : Nat), .ref t, .int (g : Nat)] ∧ g < n ∧ n ≤ 1000 ∧ TiesAt H t ts ∧ Fits n ts ∧ ∀ p H', H p = none → Same H H' → DistAt H' p (farD n ts g) → Q (.ref p) H'
end K
namespace K
open PySem PySem.Spec PyProof.Rows L2
open Sw (T3 Dist at? relax roundOf rounds)
/-- a row of pairs of houses, below n, the lesser one first -/
def PairsV (H : Hp) (n : Nat) (xs : List V) : Prop := ∃ (as : List Addr) (ps : List (Nat × Nat)), xs = as.map V.ref ∧ Paired (fun a p => H a = some (.tup [.int (p.1 : Nat), .int (p.2 : Nat)])) as ps ∧ ∀ p ∈ ps, p.1 < p.2 ∧ p.2 < n
theorem PairsV.at {H H' : Hp} {n : Nat} {xs : List V} (h : PairsV H n xs) (k : ∀ a ys, H a = some (.tup ys) → H' a = some (.tup ys)) : PairsV H' n xs := by
  obtain ⟨as, ps, e, h1, h2⟩ := h
  exact ⟨as, ps, e, paired_mono (fun a p q => k _ _ q) h1, h2⟩
theorem PairsV.nil {H : Hp} {n : Nat} : PairsV H n [] := ⟨[], [], rfl, .nil, fun p m => by cases m⟩
theorem paired_append {α β : Type} {R : α → β → Prop} : ∀ {xs xs' : List α} {ys ys' : List β}, Paired R xs ys → Paired R xs' ys' → Paired R (xs ++ xs') (ys ++ ys')
  | _, _, _, _, .nil, s => s
  | _, _, _, _, .cons r t, s => .cons r (paired_append t s)
theorem PairsV.append {H : Hp} {n : Nat} {xs ys : List V} (h : PairsV H n xs) (h' : PairsV H n ys) : PairsV H n (xs ++ ys) := by
  obtain ⟨as, ps, rfl, h1, h2⟩ := h
  obtain ⟨as', ps', rfl, h1', h2'⟩ := h'
  refine ⟨as ++ as', ps ++ ps', by rw [List.map_append], paired_append h1 h1', fun p m => ?_⟩
  rcases List.mem_append.mp m with q | q
  · exact h2 p q
  · exact h2' p q
theorem PairsV.one {H : Hp} {n i j : Nat} {a : Addr} (h : H a = some (.tup [.int (i : Nat), .int (j : Nat)])) (h1 : i < j) (h2 : j < n) : PairsV H n [.ref a] :=
  ⟨[a], [(i, j)], rfl, .cons h .nil, fun p m => by simp at m; subst m; exact ⟨h1, h2⟩⟩
theorem PairsV.flat {H : Hp} {n : Nat} : ∀ {xss : List (List V)}, (∀ xs ∈ xss, PairsV H n xs) → PairsV H n xss.flatten
  | [], _ => PairsV.nil
  | xs :: xss, h => (h xs List.mem_cons_self).append (PairsV.flat fun ys m => h ys (List.mem_cons_of_mem _ m))
theorem flat_len {α : Type} {n : Nat} : ∀ {xss : List (List α)}, (∀ xs ∈ xss, xs.length ≤ n) → xss.flatten.length ≤ xss.length * n
  | [], _ => by simp
  | xs :: xss, h => by
    have h1 := h xs List.mem_cons_self
    have h2 := flat_len (xss := xss) fun ys m => h ys (List.mem_cons_of_mem _ m)
    rw [List.flatten_cons, List.length_append, List.length_cons, Nat.succ_mul]
    omega
/-- good ties below n -/
def Good (n : Nat) (ts : List T3) : Prop := ∀ e ∈ ts, e.1 < e.2.1 ∧ e.2.1 < n ∧ 1 ≤ e.2.2 ∧ e.2.2 ≤ 9
theorem Good.fits {n : Nat} {ts : List T3} (h : Good n ts) : Fits n ts := fun e m => by have := h e m; omega
def spPairs : Sp := fun vs H Q _ => ∃ n : Nat, vs = [.int (n : Nat)] ∧ 0 < n ∧ n ≤ 8 ∧ ∀ (p : Addr) (H' : Hp) (xs : List V), H p = none → Same H H' → H' p = some (.lst xs) → PairsV H' n xs → xs.length ≤ 64 → Q (.ref p) H'
def spShuf : Sp := fun vs H Q _ => ∃ (p q t : Addr) (xs : List V), vs = [.ref p, .ref t] ∧ BoxAt H p q ∧ t ≠ p ∧ H t = some (.lst xs) ∧ xs.length ≤ 1000 ∧ ∀ (r : Addr) (H' : Hp) (ys : List V), H r = none → BoxAt H' p q → But p H H' → H' r = some (.lst ys) → ys.Perm xs → Q (.ref r) H'
def spSome : Sp := fun vs H Q _ => ∃ (p q : Addr) (n : Nat) (o : Int), vs = [.ref p, .int (n : Nat), .int o] ∧ BoxAt H p q ∧ 0 < n ∧ n ≤ 8 ∧ ∀ (r : Addr) (H' : Hp) (ts : List T3), H r = none → BoxAt H' p q → But p H H' → TiesAt H' r ts → Good n ts → ts.length ≤ 14 → Q (.ref r) H'
end K
namespace K
open PySem PySem.Spec PyProof.Rows L2
open Sw (T3 Dist at? relax roundOf rounds)
def tupData (e : T3) : PyData := .tuple [.int (e.1 : Nat), .int (e.2.1 : Nat), .int (e.2.2 : Nat)]
def tieData (ts : List T3) : PyData := .list (ts.map tupData)
theorem dp_ties {K : PySem.W.Frag} {H : Hp} {t : Addr} {ts : List T3} (h : TiesAt H t ts) : Dp K H (.ref t) (tieData ts) := by
  obtain ⟨as, h1, h2⟩ := h
  refine .lst (SqL.of h1) ?_
  clear h1
  induction h2 with
  | nil => exact .nil
  | cons r _ ih => exact .cons (.tup (SqT.of r) (.cons (.int _) (.cons (.int _) (.cons (.int _) .nil)))) ih
theorem lay_ties (ts : List T3) : PyData.canLayAll0 (ts.map tupData) = true := by
  induction ts with
  | nil => simp [PyData.canLayAll0]
  | cons e ts ih => simp [PyData.canLayAll0, PyData.canLay0, tupData, ih]
theorem depth_ties (ts : List T3) : PyData.depthAll (ts.map tupData) ≤ 2 := by
  induction ts with
  | nil => simp [PyData.depthAll]
  | cons e ts ih =>
    have h1 : (tupData e).depth ≤ 2 := by simp [tupData, PyData.depth, PyData.depthAll]
    simp only [List.map_cons, PyData.depthAll]
    omega
theorem shaped_ties (ts : List T3) : SeqAt.shaped (tieData ts) = true := by
  unfold SeqAt.shaped tieData
  have h1 := lay_ties ts
  have h2 := depth_ties ts
  have h3 : (PyData.list (ts.map tupData)).canLay0 = true := by simpa [PyData.canLay0] using h1
  have h4 : (PyData.list (ts.map tupData)).depth ≤ 64 := by
    have e : (PyData.list (ts.map tupData)).depth = PyData.depthAll (ts.map tupData) + 1 := by simp [PyData.depth, Nat.add_comm]
    omega
  rw [h3, decide_eq_true h4]
  rfl
/-- the law's own going round -/
def swp (e : T3) : T3 := (e.2.1, e.1, e.2.2)
def lfarD (n : Nat) (ts : List T3) (g : Nat) : Dist := rounds (ts ++ ts.map swp) n (Sw.start n g)
theorem lfar_mem (ts : List T3) (e : T3) : e ∈ both ts ↔ e ∈ ts ++ ts.map swp := by
  rw [both_mem, List.mem_append, List.mem_map]
  constructor
  · rintro (h | h)
    · exact .inl h
    · exact .inr ⟨_, h, rfl⟩
  · rintro (h | ⟨x, hx, rfl⟩)
    · exact .inl h
    · exact .inr hx
theorem lfarD_is {n g : Nat} {ts : List T3} (h : Fits n ts) (hg : g < n) : Sw.IsFar (both ts) n g (lfarD n ts g) := Sw.far_is _ (lfar_mem ts) (fun e m => (both_lt h e m).1) hg
theorem far_lfar {n g : Nat} {ts : List T3} (h : Fits n ts) (hg : g < n) : lfarD n ts g = farD n ts g := Sw.far_one (lfarD_is h hg) (farD_is h hg)
def spLFar : Sp := fun vs H Q _ => ∃ (n g : Nat) (t : Addr) (ts : List T3), vs = [.int (n : Nat), .ref t, .int (g : Nat)] ∧ g < n ∧ n ≤ 1000 ∧ TiesAt H t ts ∧ ts.length ≤ 400 ∧ Fits n ts ∧ ∀ p H', H p = none → Same H H' → DistAt H' p (lfarD n ts g) → Q (.ref p) H'
theorem ov_flat (x : Option Nat) : flat (ov x) = true := by cases x <;> rfl
theorem eqv_dist {H : Hp} {a b : Addr} {d : Dist} {m : Nat} (h1 : DistAt H a d) (h2 : DistAt H b d) (hl : d.length ≤ 1000) : Eqv (m + 2) H (.ref a) (.ref b) := by
  refine .inr ⟨a, b, _, _, rfl, rfl, .inl ⟨h1, h2⟩, rfl, by rw [List.length_map]; exact hl, fun i u v hu hv => ?_⟩
  rw [hu] at hv
  cases hv
  rw [List.getElem?_map] at hu
  obtain ⟨x, _, rfl⟩ := Option.map_eq_some_iff.mp hu
  exact .inl ⟨rfl, ov_flat x⟩
/-- the law: a list of at most 63 ints is handed in, True comes out -/
def spLaw (K : PySem.W.Frag) : Sp := fun vs H Q _ => ∃ (a : Addr) (ns : List Int), vs = [.ref a] ∧ SqL K H a (ns.map V.int) ∧ ns.length ≤ 63 ∧ ∀ H', Q (.bl true) H'
theorem paired_pick {α β : Type} {R : α → β → Prop} : ∀ {xs : List α} {ys : List β}, Paired R xs ys → ∀ xs' : List α, (∀ x ∈ xs', x ∈ xs) → ∃ ys' : List β, Paired R xs' ys' ∧ ∀ y ∈ ys', y ∈ ys
  | xs, ys, h, [], _ => ⟨[], .nil, fun y m => by cases m⟩
  | xs, ys, h, x :: xs', hs => by
    obtain ⟨i, hi, e⟩ := List.getElem_of_mem (hs x List.mem_cons_self)
    obtain ⟨y, ey, r⟩ := paired_at h i x (by rw [List.getElem?_eq_getElem hi, e])
    obtain ⟨ys', h1, h2⟩ := paired_pick h xs' fun z m => hs z (List.mem_cons_of_mem _ m)
    refine ⟨y :: ys', .cons r h1, fun z m => ?_⟩
    rcases List.mem_cons.mp m with q | q
    · subst q; exact List.mem_of_getElem? ey
    · exact h2 z q
theorem perm_refs {as : List Addr} {ys : List V} (h : ys.Perm (as.map V.ref)) : ∃ bs : List Addr, ys = bs.map V.ref ∧ bs.Perm as := by
  have hm : ∀ y ∈ ys, ∃ b, y = V.ref b := fun y m => by
    obtain ⟨b, _, e⟩ := List.mem_map.mp (h.mem_iff.mp m)
    exact ⟨b, e.symm⟩
  have key : ∀ zs : List V, (∀ y ∈ zs, ∃ b, y = V.ref b) → ∃ bs : List Addr, zs = bs.map V.ref := by
    intro zs
    induction zs with
    | nil => intro _; exact ⟨[], rfl⟩
    | cons z zs ih =>
      intro hz
      obtain ⟨b, e⟩ := hz z List.mem_cons_self
      obtain ⟨bs, e2⟩ := ih fun y m => hz y (List.mem_cons_of_mem _ m)
      exact ⟨b :: bs, by rw [e, e2]; rfl⟩
  obtain ⟨bs, e⟩ := key ys hm
  refine ⟨bs, e, ?_⟩
  rw [e] at h
  have h2 := h.map (fun v => match v with | V.ref a => a | _ => 0)
  rw [List.map_map, List.map_map] at h2
  have e1 : ∀ l : List Addr, l.map ((fun v => match v with | V.ref a => a | _ => 0) ∘ V.ref) = l := fun l => by
    induction l with
    | nil => rfl
    | cons x l ih => rw [List.map_cons, ih]; rfl
  rw [e1, e1] at h2
  exact h2
end K

namespace K
open PySem PySem.Spec PyProof.Rows L2
/-- a def that can be called: its promise, its name, its place, how its arguments bind -/
structure Cal (P : Program) (w : World) (K : PySem.W.Frag) (mg : Str → Option Value) (base : Heap) (k : Nat) (x : Str) (f : Addr) (fd : FuncData) (ps : List Str) (sp : Sp) : Prop where
  ok : FnOk P w K mg base CX0 k f fd ps sp
  g : mg x = some (.ref f)
  kp : PySem.W.keepIn K (.ref f) = true
  b : Binds K fd ps []
/-- the built-in names that the text reads stand for the built-in things -/
structure BT (mg : Str → Option Value) : Prop where
  len : mg "len" = none
  range : mg "range" = none
  list : mg "list" = none
  tuple : mg "tuple" = none
  isinstance : mg "isinstance" = none
  bool : mg "bool" = none
  int : mg "int" = none
  str : mg "str" = none
  all : mg "all" = none
  zip : mg "zip" = none
  sum : mg "sum" = none
  min : mg "min" = none
  sorted : mg "sorted" = none
  abs : mg "abs" = none
  enumerate : mg "enumerate" = none
end K

namespace K
open PySem PySem.Spec PyProof.Rows L2
open Sw (T3 Dist at? relax roundOf rounds)
theorem rep_non (n : Nat) : (List.replicate n [V.non]).flatten = (List.replicate n (none : Option Nat)).map ov := by
  induction n with
  | zero => rfl
  | succ n ih => rw [List.replicate_succ, List.replicate_succ, List.flatten_cons, ih]; rfl
theorem take_succ_of {α : Type} {l : List α} {i : Nat} {x : α} (h : l[i]? = some x) : l.take (i + 1) = l.take i ++ [x] := by
  rw [List.take_add_one, h]; rfl
theorem both_snoc (ts : List T3) (e : T3) : both (ts ++ [e]) = both ts ++ [e, (e.2.1, e.1, e.2.2)] := by
  unfold both
  rw [List.flatMap_append]
  simp
theorem roundOf_append (L M : List T3) (d : Dist) : roundOf (L ++ M) d = roundOf M (roundOf L d) := List.foldl_append
theorem map_ref_at {as : List Addr} {i : Nat} {y : V} (h : (as.map V.ref)[i]? = some y) : ∃ a, as[i]? = some a ∧ y = .ref a := by
  rw [List.getElem?_map] at h
  obtain ⟨a, e, q⟩ := Option.map_eq_some_iff.mp h
  exact ⟨a, e, q.symm⟩
end K
namespace K
open PySem PySem.Spec PyProof.Rows L2
open Sw (T3 Dist at? relax roundOf rounds IsNext Cand IsFar nbr candL)
/-- a row of neighbours (house, price) -/
def NbrAt (H : Hp) (p : Addr) (L : List (Nat × Nat)) : Prop := ∃ as : List Addr, H p = some (.lst (as.map V.ref)) ∧ Paired (fun a q => H a = some (.tup [.int (q.1 : Nat), .int (q.2 : Nat)])) as L
theorem NbrAt.same {H H' : Hp} {p : Addr} {L : List (Nat × Nat)} (h : NbrAt H p L) (s : Same H H') : NbrAt H' p L := by
  obtain ⟨as, h1, h2⟩ := h
  exact ⟨as, s _ _ h1, paired_mono (fun a q e => s _ _ e) h2⟩
theorem nbr_both (ts : List T3) (h u c : Nat) : (u, c) ∈ nbr ts h ↔ (h, u, c) ∈ both ts := by
  rw [Sw.nbr_mem, both_mem]
theorem both_sym (ts : List T3) : ∀ a b c, (a, b, c) ∈ both ts → (b, a, c) ∈ both ts := fun a b c m => by
  rw [both_mem] at m ⊢
  exact m.symm
def spNbr : Sp := fun vs H Q _ => ∃ (t : Addr) (ts : List T3) (h : Nat), vs = [.ref t, .int (h : Nat)] ∧ TiesAt H t ts ∧ ts.length ≤ 400 ∧ ∀ p H', H p = none → Same H H' → NbrAt H' p (nbr ts h) → Q (.ref p) H'
def spNextH : Sp := fun vs H Q _ => ∃ (p t : Addr) (d : Dist) (ts : List T3) (n g h : Nat), vs = [.ref p, .ref t, .int (g : Nat), .int (h : Nat)] ∧ DistAt H p d ∧ TiesAt H t ts ∧ ts.length ≤ 400 ∧ Fits n ts ∧ IsFar (both ts) n g d ∧ h < n ∧
  ∀ x H', IsNext (both ts) d g h x → Same H H' → Q (ov x) H'
/-- the list of next houses -/
def NextsAt (H : Hp) (p : Addr) (E : List T3) (d : Dist) (n g : Nat) : Prop := ∃ xs : List (Option Nat), H p = some (.lst (xs.map ov)) ∧ xs.length = n ∧ ∀ h < n, IsNext E d g h (at? xs h)
def spNexts : Sp := fun vs H Q _ => ∃ (n g : Nat) (t : Addr) (ts : List T3), vs = [.int (n : Nat), .ref t, .int (g : Nat)] ∧ g < n ∧ n ≤ 1000 ∧ TiesAt H t ts ∧ ts.length ≤ 400 ∧ Fits n ts ∧ ∀ p H', H p = none → Same H H' → NextsAt H' p (both ts) (farD n ts g) n g → Q (.ref p) H'
def spLNext : Sp := fun vs H Q _ => ∃ (n g h : Nat) (t : Addr) (ts : List T3), vs = [.int (n : Nat), .ref t, .int (h : Nat), .int (g : Nat)] ∧ g < n ∧ h < n ∧ n ≤ 1000 ∧ TiesAt H t ts ∧ ts.length ≤ 400 ∧ Good n ts ∧
  ∀ x H', IsNext (both ts) (farD n ts g) g h x → Same H H' → Q (ov x) H'
theorem nexts_eqv {H : Hp} {a b : Addr} {E : List T3} {d : Dist} {n g m : Nat} (h1 : NextsAt H a E d n g) (h2 : NextsAt H b E d n g) (hn : n ≤ 1000) : Eqv (m + 2) H (.ref a) (.ref b) := by
  obtain ⟨xs, e1, l1, n1⟩ := h1
  obtain ⟨ys, e2, l2, n2⟩ := h2
  have e : xs = ys := by
    refine List.ext_getElem? fun i => ?_
    by_cases hi : i < n
    · have := Sw.next_one (n1 i hi) (n2 i hi)
      unfold at? at this
      rw [List.getElem?_eq_getElem (by omega), List.getElem?_eq_getElem (by omega)] at this ⊢
      simpa using this
    · rw [List.getElem?_eq_none (by omega), List.getElem?_eq_none (by omega)]
  subst e
  exact eqv_dist e1 e2 (by omega)
theorem NextsAt.same {H H' : Hp} {p : Addr} {E : List T3} {d : Dist} {n g : Nat} (h : NextsAt H p E d n g) (s : Same H H') : NextsAt H' p E d n g := by
  obtain ⟨xs, h1, h2⟩ := h
  exact ⟨xs, s _ _ h1, h2⟩
end K
namespace K
open PySem PySem.Spec PyProof.Rows L2
open Sw (T3 Dist at? relax roundOf rounds IsNext Cand IsFar nbr candL)
theorem tv_inj {e u : T3} (h : tv e = tv u) : e = u := by
  obtain ⟨a, b, c⟩ := e
  obtain ⟨a', b', c'⟩ := u
  unfold tv at h
  injection h with h1 h
  injection h with h2 h
  injection h with h3 _
  injection h1 with h1
  injection h2 with h2
  injection h3 with h3
  have h1 : (a : Int) = a' := h1
  have h2 : (b : Int) = b' := h2
  have h3 : (c : Int) = c' := h3
  have q1 : a = a' := by omega
  have q2 : b = b' := by omega
  have q3 : c = c' := by omega
  rw [q1, q2, q3]
theorem ties_mem {H : Hp} {as : List Addr} {ts : List T3} (h : Paired (fun a e => H a = some (.tup (tv e))) as ts) (e : T3) : e ∈ ts ↔ ∃ a ∈ as, H a = some (.tup (tv e)) := by
  induction h with
  | nil => exact ⟨fun m => (by cases m), fun ⟨a, m, _⟩ => (by cases m)⟩
  | @cons a u as ts r _ ih =>
    constructor
    · intro m
      rcases List.mem_cons.mp m with q | q
      · subst q; exact ⟨a, List.mem_cons_self, r⟩
      · obtain ⟨b, m2, e2⟩ := ih.mp q
        exact ⟨b, List.mem_cons_of_mem _ m2, e2⟩
    · rintro ⟨b, m, e2⟩
      rcases List.mem_cons.mp m with q | q
      · subst q
        rw [r] at e2
        injection e2 with e2
        injection e2 with e2
        rw [tv_inj e2]
        exact List.mem_cons_self
      · exact List.mem_cons_of_mem _ (ih.mpr ⟨b, q, e2⟩)
theorem both_iff {ts us : List T3} (h : ∀ e, (e ∈ us ∨ swp e ∈ us) ↔ (e ∈ ts ∨ swp e ∈ ts)) (e : T3) : e ∈ both us ↔ e ∈ both ts := by
  rw [both_mem, both_mem]
  exact h e
theorem swapped_iff {us ts : List T3} (h : Paired (fun u e => u = e ∨ u = swp e) us ts) (e : T3) : (e ∈ us ∨ swp e ∈ us) ↔ (e ∈ ts ∨ swp e ∈ ts) := by
  induction h with
  | nil => exact ⟨fun m => m, fun m => m⟩
  | @cons u x us ts r _ ih =>
    have key : (e = u ∨ swp e = u) ↔ (e = x ∨ swp e = x) := by
      rcases r with q | q
      · rw [q]
      · subst q
        obtain ⟨a, b, c⟩ := e
        obtain ⟨a', b', c'⟩ := x
        unfold swp
        simp only [Prod.mk.injEq]
        constructor
        · rintro (⟨h1, h2, h3⟩ | ⟨h1, h2, h3⟩)
          · exact .inr ⟨h2, h1, h3⟩
          · exact .inl ⟨h2, h1, h3⟩
        · rintro (⟨h1, h2, h3⟩ | ⟨h1, h2, h3⟩)
          · exact .inr ⟨h2, h1, h3⟩
          · exact .inl ⟨h2, h1, h3⟩
    simp only [List.mem_cons]
    constructor
    · rintro ((q | q) | (q | q))
      · rcases key.mp (.inl q) with z | z
        · exact .inl (.inl z)
        · exact .inr (.inl z)
      · rcases ih.mp (.inl q) with z | z
        · exact .inl (.inr z)
        · exact .inr (.inr z)
      · rcases key.mp (.inr q) with z | z
        · exact .inl (.inl z)
        · exact .inr (.inl z)
      · rcases ih.mp (.inr q) with z | z
        · exact .inl (.inr z)
        · exact .inr (.inr z)
    · rintro ((q | q) | (q | q))
      · rcases key.mpr (.inl q) with z | z
        · exact .inl (.inl z)
        · exact .inr (.inl z)
      · rcases ih.mpr (.inl q) with z | z
        · exact .inl (.inr z)
        · exact .inr (.inr z)
      · rcases key.mpr (.inr q) with z | z
        · exact .inl (.inl z)
        · exact .inr (.inl z)
      · rcases ih.mpr (.inr q) with z | z
        · exact .inl (.inr z)
        · exact .inr (.inr z)
theorem farD_cong {n g : Nat} {ts us : List T3} (h1 : Fits n ts) (h2 : Fits n us) (hg : g < n) (h : ∀ e, e ∈ both us ↔ e ∈ both ts) : farD n us g = farD n ts g :=
  Sw.far_one (Sw.far_cong h (farD_is h2 hg)) (farD_is h1 hg)
theorem NextsAt.cong {H : Hp} {p : Addr} {E E' : List T3} {d : Dist} {n g : Nat} (he : ∀ e, e ∈ E ↔ e ∈ E') (h : NextsAt H p E d n g) : NextsAt H p E' d n g := by
  obtain ⟨xs, h1, h2, h3⟩ := h
  exact ⟨xs, h1, h2, fun i hi => Sw.next_cong he (h3 i hi)⟩
theorem fits_of {n : Nat} {ts us : List T3} (h : Fits n ts) (he : ∀ e, e ∈ both us ↔ e ∈ both ts) : Fits n us := fun e m => both_lt h e ((he e).mp ((both_mem us e).mpr (.inl m)))
end K

namespace PySem
namespace F
theorem args_minD (a d : Value) : argsOk "min" ⟨[a], [(Str.ofString "default", d)]⟩ := by unfold argsOk; kernel_rfl
end F
section
variable {prog : Program} {w : World} {A : Around} {E : Value → Shared → Prop} {s : Shared}
/-- a built-in's call with keywords, where the built-in goes on as another one -/
theorem call_tree_kw {id : String} {b : Builtin} {args : List Value} {kw : List (Str × Value)} {Q : Value → Shared → Prop} (hk : builtinKind id = none) (hp : plainId id = true) (hb : entryFor table id = some b) (ha : argsOk id ⟨args, kw⟩)
    (hc : wpAny (model prog w) A.in1 (b ⟨args, kw⟩) (fun fin s' => match fin with
      | .done f => (match (Except.ok f : Result) with | .ok (.ret v) => Q v s' | .ok _ => False | .error e => E e s')
      | .again c' => c'.quiet = true ∧ codeAny (model prog w) A c' (fun r s' => match r with | .ok (.ret v) => Q v s' | .ok _ => False | .error e => E e s') s') E s) : wpAny (model prog w) A (call (.builtin id) args kw) Q E s := by
  refine wpAny_call (codeAny_call_builtin hp hb ?_)
  simp only [checkBuiltinCall, hk]
  cases hsig : Manifest.signature? id with
  | none => exact wpAny_pure hc
  | some sig =>
    have hz : Bind.checkArgs id sig ⟨args, kw⟩ = pure () := by simpa only [argsOk, hsig] using ha
    show wpAny _ A.in1 (Bind.checkArgs id sig ⟨args, kw⟩) _ _ s
    rw [hz]; exact wpAny_pure hc
end
section
variable {prog : Program} {w : World} {A : Around} {R : Result → Shared → Prop} {I : Addr} {fp wr : List Addr} {n : Nat} {P : Nat → Value → Prop} {St : Nat → Heap → Prop}
theorem minD_name : (toString "min" ++ toString ".loop" : String) = "min.loop" := by decide
theorem minD_loop (d : Value) (W : Walks prog w A.in1 I fp wr n P St) (bt : Nat → Nat → Bool) (hcmp : CmpOf prog w A.in1 .Lt P bt) (S : Addr) (hSf : S ∉ fp) :
    ∀ (k j : Nat) (s : Shared) (vb : Value) (c : Nat), n - (j + 1) = k → j + 1 ≤ n → St (j + 1) s.heap → P (argBest bt j) vb → s.heap.get? S = some { cls := .type "list", dict := none, data := .seq #[vb, vb] c, slots := #[] } →
    (∀ v h' tk, P (argBest bt (n - 1)) v → (∀ b o, b ∉ wr → b ≠ S → s.heap.get? b = some o → h'.get? b = some o) → R (.ok (.ret v)) { s with heap := h', toks := tk }) → codeAny (model prog w) A (.builtin "min.loop" ⟨[.ref I, .none, .ref S], [(Str.ofString "default", d)]⟩) R s := by
  have nS : S ∉ wr := fun h => hSf (W.sub _ h)
  intro k
  induction k with
  | zero =>
    intro j s vb c hk hj st pb e0 hR
    have hin : j + 1 = n := by omega
    refine codeAny_builtin F.entry_min_loop ?_
    rw [Around.under_plainId F.plain_min_loop _]
    show wpAny _ A.in1 (seqItems? (.ref S) >>= _) _ _ s
    refine wpAny_bind (wpAny_seqItems e0 rfl ?_)
    show wpAny _ A.in1 (tryCatch (pyNext (.ref I)) _ >>= _) _ _ s
    refine wpAny_bind (wpAny_tryCatch (W.done s _ _ (hin ▸ st) fun h' tk keep => ?_))
    have e1 := keep S _ nS e0
    show wpAny _ A.in1 (updateSeq S (fun _ => #[]) >>= _) _ _ _
    refine wpAny_bind (wpAny_updateSeq e1 rfl (wpAny_bind (wpAny_letGo (wpAny_pure ?_))))
    exact hR vb _ tk (by rw [← hin]; exact pb) fun b o hbw hbS e => (Heap.get?_update_other _ _ (Ne.symm hbS)).trans (keep b o hbw e)
  | succ k ih =>
    intro j s vb c hk hj st pb e0 hR
    have hlt : j + 1 < n := by omega
    refine codeAny_builtin F.entry_min_loop ?_
    rw [Around.under_plainId F.plain_min_loop _]
    show wpAny _ A.in1 (seqItems? (.ref S) >>= _) _ _ s
    refine wpAny_bind (wpAny_seqItems e0 rfl ?_)
    show wpAny _ A.in1 (tryCatch (pyNext (.ref I)) _ >>= _) _ _ s
    refine wpAny_bind (wpAny_tryCatch (W.item (j + 1) s _ _ hlt st fun v h' tk pv st' keep => ?_))
    have e1 := keep S _ nS e0
    show wpAny _ A.in1 (tryCatch (holding [v, v] (richCompare .Lt v vb >>= _)) _ >>= _) _ _ _
    refine wpAny_bind (wpAny_tryCatch (wpAny_holding (wpAny_bind (hcmp (j + 1) (argBest bt j) v vb _ _ _ pv pb ?_))))
    refine wpAny_bind (wpAny_holding (wpAny_truthy_bool (wpAny_bind (wpAny_letGo (wpAny_pure ?_)))))
    cases hb : bt (j + 1) (argBest bt j) with
    | true =>
      simp only [if_true]
      refine wpAny_bind (wpAny_updateSeq e1 rfl (wpAny_bind (wpAny_letGo ?_)))
      rw [minD_name]
      refine wpAny_pure ⟨plainId_quiet F.plain_min_loop _, ih (j + 1) _ v _ (by omega) hlt (W.frame _ _ _ st' fun b hbf o e => (Heap.get?_update_other _ _ (fun h : S = b => hSf (by rw [h]; exact hbf))).trans e) (by simp only [argBest, hb, if_true]; exact pv) (Heap.get?_update_self _ e1 rfl) fun v' h2 tk2 pv' keep2 => ?_⟩
      exact hR v' h2 tk2 pv' fun b o hbw hbS e => keep2 b o hbw hbS ((Heap.get?_update_other _ _ (Ne.symm hbS)).trans (keep b o hbw e))
    | false =>
      simp only [Bool.false_eq_true, if_false]
      refine wpAny_bind (wpAny_letGo ?_)
      rw [minD_name]
      refine wpAny_pure ⟨plainId_quiet F.plain_min_loop _, ih (j + 1) _ vb c (by omega) hlt st' (by simp only [argBest, hb, Bool.false_eq_true, if_false]; exact pb) e1 fun v' h2 tk2 pv' keep2 => ?_⟩
      exact hR v' h2 tk2 pv' fun b o hbw hbS e => keep2 b o hbw hbS (keep b o hbw e)
theorem minD_first (d : Value) (W : Walks prog w A.in1 I fp wr n P St) (bt : Nat → Nat → Bool) (hcmp : CmpOf prog w A.in1 .Lt P bt) (S : Addr) (hSf : S ∉ fp) {s : Shared} {c : Nat} (st : St 0 s.heap) (e0 : s.heap.get? S = some { cls := .type "list", dict := none, data := .seq #[] c, slots := #[] })
    (h0 : n = 0 → ∀ h' tk, (∀ b o, b ∉ wr → b ≠ S → s.heap.get? b = some o → h'.get? b = some o) → R (.ok (.ret d)) { s with heap := h', toks := tk })
    (hR : 0 < n → ∀ v h' tk, P (argBest bt (n - 1)) v → (∀ b o, b ∉ wr → b ≠ S → s.heap.get? b = some o → h'.get? b = some o) → R (.ok (.ret v)) { s with heap := h', toks := tk }) :
    codeAny (model prog w) A (.builtin "min.loop" ⟨[.ref I, .none, .ref S], [(Str.ofString "default", d)]⟩) R s := by
  have nS : S ∉ wr := fun h => hSf (W.sub _ h)
  refine codeAny_builtin F.entry_min_loop ?_
  rw [Around.under_plainId F.plain_min_loop _]
  show wpAny _ A.in1 (seqItems? (.ref S) >>= _) _ _ s
  refine wpAny_bind (wpAny_seqItems e0 rfl ?_)
  show wpAny _ A.in1 (tryCatch (pyNext (.ref I)) _ >>= _) _ _ s
  by_cases hn : 0 < n
  · refine wpAny_bind (wpAny_tryCatch (W.item 0 s _ _ hn st fun v h' tk pv st' keep => ?_))
    have e1 := keep S _ nS e0
    show wpAny _ A.in1 (updateSeq S (fun _ => #[v, v]) >>= _) _ _ _
    refine wpAny_bind (wpAny_updateSeq e1 rfl ?_)
    rw [minD_name]
    refine wpAny_pure ⟨plainId_quiet F.plain_min_loop _, minD_loop d W bt hcmp S hSf _ 0 _ v _ rfl hn (W.frame _ _ _ st' fun b hbf o e => (Heap.get?_update_other _ _ (fun h : S = b => hSf (by rw [h]; exact hbf))).trans e) pv (Heap.get?_update_self _ e1 rfl) fun v' h2 tk2 pv' keep2 => ?_⟩
    exact hR hn v' h2 tk2 pv' fun b o hbw hbS e => keep2 b o hbw hbS ((Heap.get?_update_other _ _ (Ne.symm hbS)).trans (keep b o hbw e))
  · have hz : n = 0 := by omega
    refine wpAny_bind (wpAny_tryCatch (W.done s _ _ (hz ▸ st) fun h' tk keep => ?_))
    refine wpAny_bind (wpAny_rule (wpAny_pure ?_))
    exact h0 hz h' tk fun b o hbw _ e => keep b o hbw e
end
section
variable {prog : Program} {w : World} {A : Around} {E : Value → Shared → Prop} {s : Shared}
theorem call_minD {x d : Value} {Q : Value → Shared → Prop}
    (h : wpAny (model prog w) A.in1 (pyIter x) (fun it s₂ => ∃ I fp wr n P St bt, it = .ref I ∧ Walks prog w A.in1 I fp wr n P St ∧ St 0 s₂.heap ∧ (∀ b ∈ fp, b < s₂.heap.objs.size) ∧ CmpOf prog w A.in1 .Lt P bt ∧
      (n = 0 → ∀ h' tk, (∀ b o, b ∉ wr → s₂.heap.get? b = some o → h'.get? b = some o) → Q d { s₂ with heap := h', toks := tk }) ∧
      (0 < n → ∀ v h' tk, P (argBest bt (n - 1)) v → (∀ b o, b ∉ wr → s₂.heap.get? b = some o → h'.get? b = some o) → Q v { s₂ with heap := h', toks := tk })) E s) :
    wpAny (model prog w) A (call (.builtin "min") [x] [(Str.ofString "default", d)]) Q E s := by
  refine call_tree_kw F.kind_min F.plain_min F.entry_min (F.args_minD _ _) ?_
  show wpAny _ A.in1 (Builtin.Builtins.bindParams "min" ["key", "default"] 0 ⟨[], [(Str.ofString "default", d)]⟩ >>= _) _ _ s
  refine wpAny_bind (wpAny_of_eq (show Builtin.Builtins.bindParams "min" ["key", "default"] 0 ⟨[], [(Str.ofString "default", d)]⟩ = pure [none, some d] from rfl) ?_)
  refine wpAny_bind (wpAny_pure (wpAny_bind (wpAny_mono h (fun it s₂ h₂ => ?_) fun _ _ e => e)))
  obtain ⟨I, fp, wr, n, P, St, bt, rfl, W, hst, hfp, hcmp, hQ0, hQ⟩ := h₂
  refine wpAny_bind (wpAny_newObj_type ?_)
  have nS : s₂.heap.objs.size ∉ fp := fun hm => Nat.lt_irrefl _ (hfp _ hm)
  rw [minD_name]
  refine wpAny_pure ⟨plainId_quiet F.plain_min_loop _, minD_first d W bt hcmp s₂.heap.objs.size nS (W.frame _ _ _ hst fun b _ o e => Heap.get?_push_of_some _ e) (Heap.get?_push_size _ rfl) (fun hz h' tk keep => ?_) (fun hn v h' tk pv keep => ?_)⟩
  · exact hQ0 hz h' tk fun b o hbw e => keep b o hbw (Nat.ne_of_lt (Heap.lt_size e)) (Heap.get?_push_of_some _ e)
  · exact hQ hn v h' tk pv fun b o hbw e => keep b o hbw (Nat.ne_of_lt (Heap.lt_size e)) (Heap.get?_push_of_some _ e)
end
end PySem
namespace L2
open PySem PySem.Spec PyProof.Rows
section
variable {X : Cx}
/-- min(xs, default=d) of a list of ints -/
def rMinD (K : PySem.W.Frag) : List V → List V → Hp → VK → Prop := fun vs zs H Q => ∃ (a : Addr) (ns : List Int) (d : V), vs = [V.ref a] ∧ zs = [d] ∧ SqL K H a (ns.map V.int) ∧ (ns = [] → Q d H) ∧ ∀ m, m ∈ ns → (∀ y, y ∈ ns → m ≤ y) → Q (.int m) H
theorem cr_minD (hc : X.calm = true) : CallRK X (.builtin "min") ["default"] (rMinD X.K) := by
  intro pins s σ H vs zs us ws Q I r r2 h
  obtain ⟨a, ns, d, rfl, rfl, hs, q0, q⟩ := h
  obtain ⟨its, rv, hl, _⟩ := I.list hs
  rw [Vals.ref1 r]
  cases r2 with
  | @cons _ u _ _ rd rn =>
  cases rn
  have hi := rv.ints
  have hlen := hi.length
  have hat : ∀ (i : Nat) (v : Value), its.toArray[i]? = some v → ∃ t, v = .int (ns.getD i 0) t := fun i v hv => by
    have hv' : its[i]? = some v := by simpa using hv
    have hlt : i < its.length := (List.getElem?_eq_some_iff.mp hv').1
    obtain ⟨w, hw, rw'⟩ := rv.get (i := i) (x := .int (ns.getD i 0)) (by
      rw [List.getElem?_map, List.getD_eq_getElem?_getD, List.getElem?_eq_getElem (by omega : i < ns.length)]
      rfl)
    rw [hv'] at hw
    cases hw
    exact rw'
  show wpAny _ _ (call (.builtin "min") [.ref a] [(Str.ofString "default", u)]) _ _ _
  refine call_minD (iter_any hl.isList fun s₂ e2 st hne => ?_)
  subst e2
  refine ⟨_, _, _, _, _, _, _, rfl, Walks.list (A := X.A.in1) (I.ok.hd hc) _ a hne its.toArray, st, ?_, CmpOf.ints_lt (fun i => ns.getD i 0) hat, fun hz h' tk hk => ?_, fun hn v h' tk hP hk => ?_⟩
  · intro b hb
    have hsz := Heap.size_push s.heap { cls := .type "list_iterator", data := .fields #[.ref a, .int 0 0] }
    show b < (s.heap.push _).objs.size
    rw [hsz]
    rcases List.mem_cons.mp hb with e1 | hb
    · rw [e1]; exact Nat.lt_succ_self _
    · rw [List.mem_singleton.mp hb]
      obtain ⟨_, e, _⟩ := hl.isList
      exact Nat.lt_succ_of_lt (Heap.lt_size e)
  · refine ⟨d, H, I.kept fun b o eo => hk b o (fun hmem => ?_) (Heap.get?_push_of_some _ eo), rd, q0 ?_⟩
    · rw [List.mem_singleton] at hmem
      exact absurd (hmem ▸ Heap.lt_size eo) (Nat.lt_irrefl _)
    · rw [List.size_toArray] at hz
      cases ns with
      | nil => rfl
      | cons => simp at hlen; omega
  · obtain ⟨t, rfl⟩ := hat _ _ hP
    obtain ⟨h1, h2⟩ := argBest_lt (fun i => ns.getD i 0) (its.toArray.size - 1)
    rw [List.size_toArray] at hn h1 h2 ⊢
    refine ⟨.int _, H, I.kept fun b o eo => hk b o (fun hmem => ?_) (Heap.get?_push_of_some _ eo), ⟨t, rfl⟩, q _ ?_ fun y hy => ?_⟩
    · rw [List.mem_singleton] at hmem
      exact absurd (hmem ▸ Heap.lt_size eo) (Nat.lt_irrefl _)
    · have hlt : argBest (fun i j => decide (ns.getD i 0 < ns.getD j 0)) (its.length - 1) < ns.length := by omega
      rw [List.getD_eq_getElem?_getD, List.getElem?_eq_getElem hlt]
      exact List.getElem_mem hlt
    · obtain ⟨j, hj, rfl⟩ := List.getElem_of_mem hy
      have := h2 j (by omega)
      rw [List.getD_eq_getElem?_getD (i := j), List.getElem?_eq_getElem hj] at this
      exact this
end
end L2

namespace PySem
open Sem
/-- the text of a list, whatever is under way -/
theorem list_repr_any {M : Model} {A : Around} {E : Value → Shared → Prop} {s : Shared} {Q : Fin → Shared → Prop} {a : Addr} {o : Obj} {x : Value} {l : List Value} {n b : Nat} (hget : s.heap.get? a = some o) (hd : o.data = .seq (x :: l).toArray n)
    (h1 : ∀ u tk, Q (.done (.ret (.str "[...]" u))) { s with toks := tk }) (h2 : wpAny M A (do again (.builtin "list.__repr__.loop" ⟨[.ref a, rawInt 0, ← newList [], rawInt b], []⟩)) Q E s) : wpAny M A (Builtin.listReprAt b ⟨[.ref a], []⟩) Q E s := by
  intro Γ p hΓ
  have k2 := h2 Γ p hΓ
  unfold Builtin.listReprAt
  simp [slotArgs, Builtin.List.listItems, seqItems?, wp_load_of (h := hget), hd, stack]
  show wp M Γ (if (Γ.below.any _) = true then _ else _) _ _ p s
  split
  · simp [rule, retStr, ret]
    exact h1 _ _
  · exact k2
section
variable {prog : Program} {w : World} {A : Around} {E : Value → Shared → Prop} {s : Shared}
theorem fmt_list_repr {a : Addr} {o : Obj} {l : List Value} {n : Nat} {ts : List Str} {Q : Value → Shared → Prop} (ha : s.heap.get? a = some o) (hc : o.cls = .type "list") (hd : o.data = .seq l.toArray n) (hlen : ts.length = l.toArray.size)
    (hT : ∀ (i : Nat) (y : Value), l.toArray[i]? = some y → ∃ t, ts[i]? = some t ∧ ReprIs prog w y t) (hsz : (listText ts).length ≤ sizeLine)
    (h : ∀ (m : Str) (h' : Heap) (u tk : Tok), m.length ≤ (listText ts).length + 5 → (∀ b o, s.heap.get? b = some o → h'.get? b = some o) → Q (.str m u) { s with heap := h', toks := tk }) : wpAny (model prog w) A (call (.builtin "list.__repr__") [.ref a]) Q E s := by
  have hTy : s.TypeIs (.ref a) "list" := ⟨o, ha, hc⟩
  cases l with
  | nil => exact call_list_repr_empty hTy ha hd (h "[]" s.heap _ _ (Nat.le_trans (by decide +kernel : ("[]" : Str).length ≤ 5) (Nat.le_add_left _ _)) fun _ _ e => e)
  | cons x l =>
    refine wpAny_call (codeAny_call_builtin F.slot_list_repr.plain F.entry_list_repr (F.slot_list_repr.check _ _ _ _ _ _ _ _ hTy (F.args_list_repr_1 _) ?_))
    refine list_repr_any (b := 0) ha hd (fun u tk => ?_) ?_
    · exact h "[...]" s.heap u tk (Nat.le_trans (by decide +kernel : ("[...]" : Str).length ≤ 5) (Nat.le_add_left _ _)) fun _ _ e => e
    · refine wpAny_bind (m := newList []) (wpAny_newObj_type ?_)
      refine wpAny_pure ⟨F.quiet_list_repr_loop _, ?_⟩
      refine codeAny_list_repr_start (P := s.heap.objs.size) (Nat.ne_of_lt (Heap.lt_size ha)) hlen hT (Heap.get?_push_of_some _ ha) hd (Heap.get?_push_size _ rfl) (fun h' u tk hk => ?_) (by omega)
      exact h (listText ts) h' u tk (Nat.le_add_right _ _) fun b o e => hk b o (Nat.ne_of_lt (Heap.lt_size e)) (Heap.get?_push_of_some _ e)
theorem fmt_list {a : Addr} {o : Obj} {l : List Value} {n : Nat} {ts : List Str} {Q : Value → Shared → Prop} (hu : A.units + 2 < cLine) (ha : s.heap.get? a = some o) (hc : o.cls = .type "list") (hd : o.data = .seq l.toArray n) (hlen : ts.length = l.toArray.size)
    (hT : ∀ (i : Nat) (y : Value), l.toArray[i]? = some y → ∃ t, ts[i]? = some t ∧ ReprIs prog w y t) (hsz : (listText ts).length ≤ sizeLine)
    (h : ∀ (m : Str) (h' : Heap) (u tk : Tok), m.length ≤ (listText ts).length + 5 → (∀ b o, s.heap.get? b = some o → h'.get? b = some o) → Q (.str m u) { s with heap := h', toks := tk }) : wpAny (model prog w) A (formatField (.ref a) Str.empty) Q E s :=
  wpAny_formatField_slot (fun _ _ => nofun) hu ⟨o, ha, hc⟩ F.slot_list_format F.slot_list_str F.slot_list_repr.toG
    (fmt_list_repr (s := { s with toks := s.toks + 1 }) ha hc hd hlen hT hsz fun m h' u tk hm hk => ⟨m, u, rfl, h m h' u tk hm hk⟩)
end
end PySem

namespace L2
open PySem PySem.Spec PyProof.Rows
theorem text_le : ∀ (ts : List Str) (k : Nat) (acc : Str), (textFrom k acc ts).length ≤ acc.length + piled ts
  | [], k, acc => Nat.le_add_right _ _
  | t :: ts, k, acc => by
    have ih := text_le ts (k + 1) (acc ++ ((if k > 0 then ", " else "" : String) : Str) ++ t)
    have e : (((if k > 0 then ", " else "" : String)) : Str).length ≤ 2 := by split <;> decide +kernel
    rw [strLen_append, strLen_append] at ih
    rw [piled_cons]
    show (textFrom (k + 1) (acc ++ ((if k > 0 then ", " else "" : String) : Str) ++ t) ts).length ≤ _
    omega
theorem digit_len {i : Int} (h0 : 0 ≤ i) (h1 : i < 10) : (Str.ofString (toString i)).length = 1 := by
  have : i = 0 ∨ i = 1 ∨ i = 2 ∨ i = 3 ∨ i = 4 ∨ i = 5 ∨ i = 6 ∨ i = 7 ∨ i = 8 ∨ i = 9 := by omega
  rcases this with e | e | e | e | e | e | e | e | e | e <;> subst e <;> decide +kernel
section
variable {X : Cx}
/-- {xs}, xs a list of digits: some text -/
def tFmtL (K : PySem.W.Frag) (te : TE) : TE := fun σ H Q => te σ H fun x H1 => ∃ (a : Addr) (ns : List Int), x = .ref a ∧ SqL K H1 a (ns.map V.int) ∧ ns.length ≤ 100 ∧ (∀ n ∈ ns, 0 ≤ n ∧ n < 10) ∧ ∀ m : Str, m.length ≤ 1000 → Q (.str m) H1
theorem pe_fmtLu {e : Expr} {te : TE} {pos : Pos} (hu : X.A.units + 2 < cLine) (he : PE X e te) : PE X (.FormattedValue e (-1) none pos) (tFmtL X.K te) := by
  refine ⟨fun pins s σ H Q I h => ?_⟩
  refine wpAny_FormattedValue_plain (thn (he.run pins s σ H _ I h) fun v s1 hv => ?_)
  obtain ⟨x, H1, I1, r1, a, ns, rfl, hs, hl, hn, q⟩ := hv
  cases r1
  obtain ⟨its, rv, pl, _⟩ := I1.list hs
  obtain ⟨o, ho, hcl, n, hd⟩ := pl.isList
  have hlen := rv.length
  rw [List.length_map] at hlen
  have hpile : ∀ l : List Int, (∀ n ∈ l, 0 ≤ n ∧ n < 10) → piled (l.map fun i => Str.ofString (toString i)) = 3 * l.length := by
    intro l
    induction l with
    | nil => intro _; rfl
    | cons i l ih =>
      intro hl
      have hi := hl i List.mem_cons_self
      rw [List.map_cons, piled_cons, ih (fun n m => hl n (List.mem_cons_of_mem _ m)), digit_len hi.1 hi.2, List.length_cons]
      omega
  have hp := hpile ns hn
  have hz : (listText (ns.map fun i => Str.ofString (toString i))).length ≤ 3 * ns.length + 2 := by
    unfold listText
    have h1 := text_le (ns.map fun i => Str.ofString (toString i)) 0 "["
    have e1 : ((("[" : String) : Str)).length = 1 := rfl
    have e2 : ((("]" : String) : Str)).length = 1 := rfl
    rw [strLen_append, e2]
    rw [e1] at h1
    omega
  refine fmt_list (ts := ns.map fun i => Str.ofString (toString i)) (by omega) ho hcl hd (by rw [List.length_map, List.size_toArray]; exact hlen) (fun i y hy => ?_) (by rw [sizeLine_eq]; omega) fun m h' u tk hm hk => ⟨.str m, H1, I1.kept hk, ⟨u, rfl⟩, q m (by omega)⟩
  have hy' : its[i]? = some y := by simpa using hy
  have hlt : i < ns.length := by have := (List.getElem?_eq_some_iff.mp hy').1; omega
  obtain ⟨z, hz2, rz⟩ := rv.get (i := i) (x := .int ns[i]) (by rw [List.getElem?_map, List.getElem?_eq_getElem hlt]; rfl)
  rw [hy'] at hz2
  cases hz2
  obtain ⟨t, rfl⟩ := rz
  have hb := hn _ (List.getElem_mem hlt)
  refine ⟨_, by rw [List.getElem?_map, List.getElem?_eq_getElem hlt]; rfl, ReprIs.int t ?_⟩
  have : ns[i].natAbs < 10 := by omega
  exact Nat.lt_of_le_of_lt (Nat.log2_le_self _) (by omega)
theorem pe_fmtL {e : Expr} {te : TE} {pos : Pos} {k : Nat} (hr : Room k X.A) (he : PE X e te) : PE X (.FormattedValue e (-1) none pos) (tFmtL X.K te) := pe_fmtLu (by have := hr.units; omega) he
/-- C.m(e, ..), C the class at C (own), m a def of it -/
def tClsF (C : Addr) (sp : Sp) (E : XK) (ta : TE) (t : TA) : TE := fun σ H Q => ta σ H fun x H1 => x = .ref C ∧ t σ H1 fun vs H2 => sp vs H2 Q E
theorem pe_clsf {CX : CXT} {k : Nat} {C f : Addr} {fd : FuncData} {ps : List Str} {mc : Value} {sp : Sp} {E : XK} {o e : Expr} {es : List Expr} {m : Str} {pos apos : Pos} {ta : TE} {t : TA} {pl : Sem Bool} (he : PE X o ta) (r : ClX.CRead X.K C mc) (at_ : PySem.W.findCls X.K (.ref C) mc m = some (.val (.ref f)))
    (F : FnOk X.prog X.w X.K X.mg X.base CX k f fd ps sp) (hr : Room k X.A) (hk : PySem.W.keepIn X.K (.ref f) = true) (hb : Binds X.K fd ps []) (hx : Passes CX X E) (ha : PA X (e :: es) t)
    (hst : starEach (e :: es) X.env = (false, eval e X.env) :: starEach es X.env := by rfl) (hpl : (backTo pos (starEach es X.env)).any (·.1) = false := by rfl)
    (ht : eval (.Call (.Attribute o m apos) (e :: es) [] pos) X.env = (do
      let ov ← eval o X.env
      standAt apos.atName
      let (f, first) ← holding [ov] (getMethod ov m pl)
      callWith pos f first (backTo pos (starEach (e :: es) X.env)) (backToKw pos (keywordEach [] X.env))) := by rfl) :
    PE X (.Call (.Attribute o m apos) (e :: es) [] pos) (tClsF C sp E ta t) := by
  refine ⟨fun pins s σ H Q I h => ?_⟩
  refine PySem.W.methodCall_KW (pl := pl) (thn (he.run pins s σ H _ I h) fun u s1 ⟨x, H1, I1, rx, ex, q⟩ => ?_) ht
  subst ex
  obtain rfl : u = Value.ref C := rx
  refine PySem.W.method_cls I1.kIn r.ga (ClX.getcval_ok (v := .ref f) I1 r ⟨at_, rfl⟩ fun s2 I2 => ?_)
  refine PySem.W.callWith_K (h₀ := X.base) I2.ok.mod.kin hk (thn (ha.run pos pins s2 σ H1 _ I2 q) fun us s3 ⟨vs, H2, I3, rv, q2⟩ => ⟨I3.kIn, ?_⟩) hst hpl
  refine run_fn (dvs := []) F hr hb .nil hx I3 rv ?_
  rw [List.append_nil]
  exact q2
end
end L2

/-! several except clauses, with and without a name -/
namespace L2
open PySem PySem.Spec PyProof.Rows
/-- one clause: the class that it names, the slot of its name (if any), its suite's reading -/
structure Cl where
  c : Value
  i : Option Nat
  ts : Addr → Value → Option Addr → TS
def slotN (i : Option Nat) (v : Option V) (σ : St) : St := match i with
  | none => σ
  | some i => σ.set i v
def endsN (i : Option Nat) (D : Ends) : Ends := match i with
  | none => D
  | some i => { nx := fun σ H => D.nx (σ.set i none) H, rt := D.rt, bk := fun σ H => D.bk (σ.set i none) H, ct := fun σ H => D.ct (σ.set i none) H }
/-- what the clauses wish of an exception of the body -/
def wMix (K : PySem.W.Frag) (Wout : WX) (D : Ends) : List Cl → WX
  | [] => Wout
  | x :: r => fun cls d σ H => ∃ b, PySem.W.exmOne K cls x.c = some b ∧ (b = true → ∀ a, H a = none → x.ts a cls d (endsN x.i D) (slotN x.i (some (.ref a)) σ) H) ∧ (b = false → wMix K Wout D r cls d σ H)
inductive MixOk (X : Cx) : List ExceptHandler → List Cl → Prop
  | nil : MixOk X [] []
  | bare {x : Str} {c : Value} {ts : Addr → Value → Option Addr → TS} {b₀ : Stmt} {suite : List Stmt} {np pos' : Pos} {hds : List ExceptHandler} {l : List Cl} (hc : Names X x c)
      (hsu : ∀ (a : Addr) (oe : Obj) (cls : Value) (d : Option Addr) (pn : List (Addr × Obj)), Zc cls d oe → (∃ vs, oe.data = .fields vs) → PSs (X.suite a ((a, oe) :: pn)) (b₀ :: suite) (ts a cls d)) (r : MixOk X hds l) :
      MixOk X (.ExceptHandler (some (.Name x np)) none (b₀ :: suite) pos' :: hds) (⟨c, none, ts⟩ :: l)
  | as {x n : Str} {i : Nat} {c : Value} {ts : Addr → Value → Option Addr → TS} {b₀ : Stmt} {suite : List Stmt} {np pos' : Pos} {hds : List ExceptHandler} {l : List Cl} (hN : X.N.Nodup) (hi : X.N[i]? = some n) (hln : X.env.kindOf n = some .local) (hc : Names X x c)
      (hsu : ∀ (a : Addr) (oe : Obj) (cls : Value) (d : Option Addr) (pn : List (Addr × Obj)), Zc cls d oe → (∃ vs, oe.data = .fields vs) → PSs (X.suite a ((a, oe) :: pn)) (b₀ :: suite) (ts a cls d)) (r : MixOk X hds l) :
      MixOk X (.ExceptHandler (some (.Name x np)) (some n) (b₀ :: suite) pos' :: hds) (⟨c, some i, ts⟩ :: l)
section
variable {X : Cx} {body : List Stmt} {h₀ : ExceptHandler} {hds : List ExceptHandler} {l : List Cl} {pos : Pos} {tb : WX → TS} {Wout : WX}
theorem ps_try_mix (hs : X.stack = X.env :: X.outer) (hf : X.env.frame = some X.env.locals) (tk : Takes X Wout)
    (hb : ∀ (W : WX) (pn : List (Addr × Obj)) (xe : Value → Shared → Prop), Takes (X.tr pn xe) W → PassesOwn (model X.prog X.w) X.A X.env xe → PSs (X.tr pn xe) body (tb W))
    (hh : MixOk X (h₀ :: hds) l) : PS X (.Try body (h₀ :: hds) [] [] pos) (fun D σ H => tb (wMix X.K Wout D l) D σ H) := by
  refine ⟨fun pins s σ H D I h => ?_⟩
  have ok := I.ok
  have hfr : X.A.frames = some (X.env :: X.outer) := by rw [ok.frames, hs]
  refine wpAny_Try_except (wpAny_mono ((hb (wMix X.K Wout D l) (X.pn ++ pins) (fun e s₁ => wpAny (model X.prog X.w) X.A (noteFrame e X.env) (fun _ s₂ => wpAny (model X.prog X.w) X.A (setFlight e none) (fun _ s₃ => wpAny (model X.prog X.w) X.A (handleBy e X.env (h₀ :: hds)) (SP X pins D) X.xe s₃) X.xe s₂) X.xe s₁) (fun u s' xx => ?_) PassesOwn.looking).run [] s σ H D (I.toTry _) h) (fun f s1 hsp => ?_) (fun e s1 he => he))
  · obtain ⟨a, B, sI, pins', σ', H', cls, d, rfl, J', nb, up, sky, na, os, ag, w⟩ := xx
    have J : Inv X pins σ' H' sI := J'.ofTry ok
    have sky2 : Sky B (X.env :: X.outer) a (Zc cls d) X.env.locals s'.heap := by rw [← hs]; exact sky
    show wpAny (model X.prog X.w) X.A (noteFrame (.ref a) X.env) _ _ _
    refine Sky.land Zc.steady hfr hf sky2 fun h3 fl3 up3 => ?_
    have J3 : Inv X pins σ' H' { s' with heap := h3 } := J.landed nb fl3.1 (up.trans up3) os ag
    obtain ⟨oe3, vs3, he3, hz3, hd3⟩ := fl3.there
    have nfr : a ∉ frs (X.env :: X.outer) := fun hm => by
      obtain ⟨_, o', e', hnf⟩ := fl3.2.2.1.mem hm
      rw [he3] at e'; cases e'
      exact hnf _ hd3
    have nL : a ≠ X.env.locals := fun z => nfr (List.mem_filterMap.mpr ⟨X.env, List.mem_cons_self, by rw [hf, z]⟩)
    have nF : a ∉ X.fs := fun hm => by
      obtain ⟨e, he, q⟩ := List.mem_filterMap.mp hm
      exact nfr (List.mem_filterMap.mpr ⟨e, List.mem_cons_of_mem _ he, q⟩)
    have S3 := J3.suite he3 hd3 na nL nF
    have LT : PySem.W.Looks (model X.prog X.w) h3 (typeOf (.ref a)) cls := fun A Q E s k q => wpAny_typeOf_ref (k _ _ he3) (by rw [hz3.1]; exact q)
    have test : ∀ {x : Str} {c : Value} {np : Pos} {Q : Value → Shared → Prop} {E : Value → Shared → Prop}, Names X x c → Q c { s' with heap := h3 } → wpAny (model X.prog X.w) (X.A.mark (some (.ref a))) (eval (.Name x np) X.env) Q E { s' with heap := h3 } := fun {x c np Q E} hc q => by
      obtain ⟨hg, hdbg, hm | ⟨hm, hv, hnn⟩⟩ := hc
      · exact ld_glob (X := X.suite a ((a, oe3) :: (X.pn ++ pins))) S3 hg hm q hdbg
      · exact ld_blt (X := X.suite a ((a, oe3) :: (X.pn ++ pins))) S3 hg hm hv q hnn hdbg
    have go : ∀ {hds' : List ExceptHandler} {l' : List Cl}, MixOk X hds' l' → wMix X.K Wout D l' cls d σ' H' → wpAny (model X.prog X.w) X.A (handleBy (.ref a) X.env hds') (SP X pins D) X.xe { s' with heap := h3 } := by
      intro hds' l' hk
      induction hk with
      | nil =>
        intro w
        refine wpAny_handleBy_nil ?_
        obtain ⟨k1, k2, k3, oe, vs, T, oT, ts', he, hz, hd, h1, hr⟩ := id fl3
        unfold PySem.passOn
        refine wpAny_bind (wpAny_field he hd h1 ?_)
        rw [if_neg (show ¬ ((Value.ref T == Value.none) = true) from by simp)]
        have fin : wpAny (model X.prog X.w) X.A (setFlight (.ref a) X.env.frame) (fun _ s4 => wpAny (model X.prog X.w) X.A (throw (.ref a) : Sem Flow) (SP X pins D) X.xe s4) X.xe { s' with heap := h3 } := by
          rw [hf]
          refine HandSPX.setFlight_upZ fl3 fun h4 hh4 up4 => wpAny_throw (tk _ _ ?_)
          exact ⟨a, B, sI, pins, σ', H', cls, d, rfl, J, nb, (up.trans up3).trans up4, .inr (.inr (by rw [hs]; exact hh4)), na, os, ag, w⟩
        first
          | exact wpAny_bind (wpAny_pure (wpAny_bind fin))
          | exact wpAny_bind fin
      | @bare x c ts b₀ suite np pos' hds2 l2 hc hsu r ih =>
        intro w
        obtain ⟨b, hb1, hyes, hno⟩ := w
        refine wpAny_handleBy_cons (codeAny_handlers_test ?_) (by intro q; cases q)
        refine test hc ((PySem.W.exm_one (M := model X.prog X.w) (J3.kIn) LT hb1).here ?_)
        cases b with
        | true =>
          refine codeAny_handlers_suite (HandSPX.lands_againZ fl3 fun h4 fl4 up4 => ?_)
          have J4 : Inv X pins σ' H' { s' with heap := h4 } := J.landed nb fl4.1 ((up.trans up3).trans up4) os ag
          obtain ⟨oe4, vs4, he4, hz4, hd4⟩ := fl4.there
          refine wpAny_mono ((hsu a oe4 cls d (X.pn ++ pins) hz4 ⟨_, hd4⟩).run [] _ _ H' _ (J4.suite he4 hd4 na nL nF) (hyes rfl a na)) (fun f s6 hsp => ?_) (fun _ _ z => False.elim z)
          cases f with
          | next => obtain ⟨σ6, H6, S6, q6⟩ := hsp; exact ⟨_, _, S6.unsuite ok, q6⟩
          | brk => obtain ⟨σ6, H6, S6, q6⟩ := hsp; exact ⟨_, _, S6.unsuite ok, q6⟩
          | cont => obtain ⟨σ6, H6, S6, q6⟩ := hsp; exact ⟨_, _, S6.unsuite ok, q6⟩
          | ret u => obtain ⟨v6, σ6, H6, S6, r6, q6⟩ := hsp; exact ⟨_, _, _, S6.unsuite ok, r6, q6⟩
        | false =>
          show wpAny _ X.A (handleBy (.ref a) X.env hds2) _ _ _
          exact ih (hno rfl)
      | @as x n i c ts b₀ suite np pos' hds2 l2 hN hi hln hc hsu r ih =>
        intro w
        obtain ⟨b, hb1, hyes, hno⟩ := w
        have hloc : Loc X.env.scope n := .inl hln
        refine wpAny_handleBy_cons (codeAny_handlers_test ?_) (by intro q; cases q)
        refine test hc ((PySem.W.exm_one (M := model X.prog X.w) (J3.kIn) LT hb1).here ?_)
        cases b with
        | true =>
          refine codeAny_handlers_suite_as (HandSPX.lands_againZ fl3 fun h4 fl4 up4 => ?_)
          have J4 : Inv X pins σ' H' { s' with heap := h4 } := J.landed nb fl4.1 ((up.trans up3).trans up4) os ag
          obtain ⟨oe4, vs4, he4, hz4, hd4⟩ := fl4.there
          have S4 := J4.suite he4 hd4 na nL nF
          refine store_ok (X := X.suite a ((a, oe4) :: (X.pn ++ pins))) (v := .ref a) S4 hN hi hloc rfl (fun s5 S5 => ?_) (.inr hln)
          refine wpAny_mono ((hsu a oe4 cls d (X.pn ++ pins) hz4 ⟨_, hd4⟩).run [] s5 _ H' _ S5 (hyes rfl a na)) (fun f s6 hsp => ?_) (fun _ _ z => False.elim z)
          have end_ : ∀ {σ6 : St} {H6 : Hp} {Q : Shared → Prop}, Inv (X.suite a ((a, oe4) :: (X.pn ++ pins))) [] σ6 H6 s6 → (∀ s7, Inv X pins (σ6.set i none) H6 s7 → Q s7) → wpAny (model X.prog X.w) X.A (do bindName X.env n .none; unbindBehindTheSuite X.env n pos') (fun _ s7 => Q s7) X.xe s6 := fun {σ6 H6 Q} S6 hq => gone_ok (S6.unsuite ok) hN hi hln hq
          cases f with
          | next => obtain ⟨σ6, H6, S6, q6⟩ := hsp; exact end_ S6 fun s7 J7 => ⟨_, _, J7, q6⟩
          | brk => obtain ⟨σ6, H6, S6, q6⟩ := hsp; exact end_ S6 fun s7 J7 => ⟨_, _, J7, q6⟩
          | cont => obtain ⟨σ6, H6, S6, q6⟩ := hsp; exact end_ S6 fun s7 J7 => ⟨_, _, J7, q6⟩
          | ret u => obtain ⟨v6, σ6, H6, S6, r6, q6⟩ := hsp; exact end_ S6 fun s7 J7 => ⟨_, _, _, J7, r6, q6⟩
        | false =>
          show wpAny _ X.A (handleBy (.ref a) X.env hds2) _ _ _
          exact ih (hno rfl)
    exact go hh w
  · cases f with
    | next => obtain ⟨σ', H', J', q⟩ := hsp; exact wpAny_execs_nil ⟨σ', H', J'.ofTry ok, q⟩
    | brk => obtain ⟨σ', H', J', q⟩ := hsp; exact ⟨σ', H', J'.ofTry ok, q⟩
    | cont => obtain ⟨σ', H', J', q⟩ := hsp; exact ⟨σ', H', J'.ofTry ok, q⟩
    | ret u => obtain ⟨v, σ', H', J', r, q⟩ := hsp; exact ⟨v, σ', H', J'.ofTry ok, r, q⟩
end
end L2

namespace K
open PySem PySem.Spec PyProof.Rows L2
/-- whether an error of the class at S is what «except C» names -/
theorem exm_pair {K : PySem.W.Frag} {S C : Addr} {b : Bool} (h1 : PySem.W.subIn K (.ref C) (.type "BaseException") = some true) (h2 : PySem.W.isClsIn K C = true) (h3 : PySem.W.typeIn K (.ref C) = some (.type "type")) (h4 : PySem.W.subIn K (.ref S) (.ref C) = some b) : PySem.W.exmOne K (.ref S) (.ref C) = some b := by
  have e1 : (PySem.W.subIn K (.ref C) (.type "BaseException") == some true) = true := by rw [h1] <;> rfl
  have e2 : ((PySem.W.clsIn K C).isSome && PySem.W.typeIn K (.ref C) == some (.type "type")) = true := by
    have h2' : (PySem.W.clsIn K C).isSome = true := h2
    rw [h2', h3] <;> rfl
  show (if (PySem.W.subIn K (.ref C) (.type "BaseException") == some true) = true then (if ((PySem.W.clsIn K C).isSome && PySem.W.typeIn K (.ref C) == some (.type "type")) = true then PySem.W.subIn K (.ref S) (.ref C) else none) else none) = some b
  rw [if_pos e1, if_pos e2]
  exact h4
/-- what the top has written of SlipError and its __init__ -/
structure SlipT (K : PySem.W.Frag) (mg : Str → Option Value) (CS fS : Addr) : Prop where
  g : mg "SlipError" = some (.ref CS)
  r : ClX.CRead K CS (.type "type")
  at_ : PySem.W.findCls K (.ref CS) (.type "type") "__init__" = some (.val (.ref fS))
  kp : PySem.W.keepIn K (.ref fS) = true
  vV : PySem.W.findCls K (.type "ValueError") (.type "type") "__init__" = some (.val (.builtin "ValueError.__init__"))
  mV : mg "ValueError" = none
/-- .. of a refusal's class x at C, its __init__ at fI -/
structure ExcT (K : PySem.W.Frag) (mg : Str → Option Value) (x : Str) (C fI : Addr) : Prop where
  g : mg x = some (.ref C)
  oex : OexC K C
  xf : XfC K C
  iC : PySem.W.findIn K (.ref C) "__init__" = some (some (.ref fI))
  tI : PySem.W.typeIn K (.ref fI) = some (.type "function")
  word : PySem.W.findIn K (.ref C) "word" = some none
def spSlip (K : PySem.W.Frag) : Sp := fun vs H Q _ => ∃ (a C : Addr) (w y : Str), vs = [.ref a, .str w, .str y] ∧ OexC K C ∧ PySem.W.findIn K (.ref C) "word" = some none ∧ H a = some (exo a C none) ∧
  ∀ dx, H dx = none → dx ≠ a → Q .non (upd (upd H dx (exd dx [("word", .str w)])) a (exo a C (some dx)))
/-- C(v): the exception at a gets its fields, newest first, in a new dict; all else stands -/
def spIn1 (K : PySem.W.Frag) (f wd : Str) (ask : Hp → V → Prop) (got : Hp → Hp → V → V → Prop) : Sp := fun vs H Q _ => ∃ (a C : Addr) (v : V), vs = [.ref a, v] ∧ ask H v ∧ OexC K C ∧ PySem.W.findIn K (.ref C) "word" = some none ∧ PySem.W.findIn K (.ref C) f = some none ∧ H a = some (exo a C none) ∧
  ∀ (dx : Addr) (v' : V) (H' : Hp), H dx = none → dx ≠ a → (∀ b o, H b = some o → b ≠ a → H' b = some o) → H' a = some (exo a C (some dx)) → H' dx = some (exd dx [(f, v'), ("word", .str wd)]) → got H H' v v' → Q .non H'
def askInt : Hp → V → Prop := fun _ v => ∃ i : Int, v = .int i ∧ i.natAbs.log2 < 1920
def gotSame : Hp → Hp → V → V → Prop := fun _ _ v v' => v' = v
/-- a list of digits -/
def askLot (K : PySem.W.Frag) : Hp → V → Prop := fun H v => ∃ (l : Addr) (ns : List Int), v = .ref l ∧ H l = some (.lst (ns.map V.int)) ∧ ns.length ≤ 100 ∧ ∀ n ∈ ns, 0 ≤ n ∧ n < 10
def gotLot : Hp → Hp → V → V → Prop := fun H0 H v v' => ∃ (l l' : Addr) (xs : List V), v = .ref l ∧ v' = .ref l' ∧ H l = some (.lst xs) ∧ H l' = some (.lst xs) ∧ l ≠ l' ∧ H0 l' = none
theorem ext_ne_lst {H : Hp} {a b : Addr} {C : Addr} {d : Option Addr} {xs : List V} (h : H a = some (exo a C d)) (h' : H b = some (.lst xs)) : b ≠ a := fun e => by
  subst e
  rw [h] at h'
  cases h'
section
variable {P : Program} {w : World} {K : PySem.W.Frag} {mg : Str → Option Value} {base : Heap}
theorem join2_le {c m : Str} (hc : (Str.empty ++ c).length ≤ 1000) (hm : m.length ≤ 2000) : ((Str.empty ++ c) ++ m).length ≤ sizeLine := by
  rw [strLen_append, sizeLine_eq]
  omega
theorem join3_le {c m e : Str} (hc : (Str.empty ++ c).length ≤ 1000) (hm : m.length ≤ 2000) (he : e.length ≤ 1000) : (((Str.empty ++ c) ++ m) ++ e).length ≤ sizeLine := by
  rw [strLen_append, strLen_append, sizeLine_eq]
  omega
/-- what a raise of such a refusal leaves -/
theorem raised_same {H H2 : Hp} {a d : Addr} {fs : List (Str × V)} (ha : H a = none) (k : ∀ b o, H b = some o → b ≠ a → H2 b = some o) (hd : H d = none) : Same H (upd (del H2 a) d (.xd fs)) := fun b o e => by
  have hb : b ≠ a := ne_of_none e ha
  rw [upd_ne (ne_of_none e hd), del_ne hb]
  exact k b o e hb
end
end K

namespace K
open PySem PySem.Spec PyProof.Rows L2
open Sw (T3 Dist at? relax roundOf rounds IsNext Cand IsFar nbr candL WayTo lotOf)
/-- a def that may raise, as it can be called -/
structure CalX (P : Program) (w : World) (K : PySem.W.Frag) (mg : Str → Option Value) (base : Heap) (k : Nat) (x : Str) (f : Addr) (fd : FuncData) (ps : List Str) (sp : Sp) : Prop where
  ok : FnOk P w K mg base (L2.CX P w) k f fd ps sp
  g : mg x = some (.ref f)
  kp : PySem.W.keepIn K (.ref f) = true
  b : Binds K fd ps []
/-- a refusal's class with the promise of its __init__ -/
structure ExcC (P : Program) (w : World) (K : PySem.W.Frag) (mg : Str → Option Value) (base : Heap) (k : Nat) (x : Str) (C fI : Addr) (fd : FuncData) (ps : List Str) (sp : Sp) : Prop where
  t : ExcT K mg x C fI
  ok : FnOk P w K mg base CX0 k fI fd ps sp
  b : Binds K fd ps []
/-- NoHouse(h), as it is in the air: its dict, new; all else stands -/
def HouseX (CH : Addr) (h : Int) (H : Hp) (E : XK) : Prop := ∀ (d : Addr) (H' : Hp), H d = none → Same H H' → H' d = some (.xd [("house", .int h), ("word", .str "nohouse")]) → E (.ref CH) (some d) H'
def LotX (CW : Addr) (wd : Str) (lot : List Nat) (H : Hp) (E : XK) : Prop := ∀ (d l : Addr) (H' : Hp), H d = none → H l = none → Same H H' → H' d = some (.xd [("lot", .ref l), ("word", .str wd)]) → H' l = some (.lst (lot.map fun h => V.int (h : Nat))) → E (.ref CW) (some d) H'
def spCheckX (CH : Addr) : Sp := fun vs H Q E => ∃ (n : Nat) (h : Int), vs = [.int (n : Nat), .int h] ∧ h.natAbs.log2 < 1920 ∧ (0 ≤ h ∧ h < n → Q .non H) ∧ (¬ (0 ≤ h ∧ h < n) → HouseX CH h H E)
def spReach : Sp := fun vs H Q _ => ∃ (n g : Nat) (t : Addr) (ts : List T3), vs = [.int (n : Nat), .ref t, .int (g : Nat)] ∧ g < n ∧ n ≤ 1000 ∧ TiesAt H t ts ∧ Fits n ts ∧ ∀ p H', H p = none → Same H H' → H' p = some (.lst ((lotOf n (farD n ts g)).map fun h => V.int (h : Nat))) → Q (.ref p) H'
/-- (price, way) -/
def PriceWay (H : Hp) (p : Addr) (c : Nat) (way : List Nat) : Prop := ∃ w : Addr, H p = some (.tup [.int (c : Nat), .ref w]) ∧ H w = some (.tup (way.map fun h => V.int (h : Nat)))
def spLeastX (CH CW : Addr) : Sp := fun vs H Q E => ∃ (n : Nat) (s g : Int) (t : Addr) (ts : List T3), vs = [.int (n : Nat), .ref t, .int s, .int g] ∧ n ≤ 9 ∧ s.natAbs.log2 < 1920 ∧ g.natAbs.log2 < 1920 ∧ TiesAt H t ts ∧ ts.length ≤ 400 ∧ Fits n ts ∧ (∀ e ∈ ts, 1 ≤ e.2.2 ∧ e.2.2 ≤ 9) ∧
  (¬ (0 ≤ s ∧ s < n) → HouseX CH s H E) ∧ (0 ≤ s ∧ s < n → ¬ (0 ≤ g ∧ g < n) → HouseX CH g H E) ∧
  (∀ s' g' : Nat, s = s' → g = g' → s' < n → g' < n → at? (farD n ts g') s' = none → LotX CW "noway" (lotOf n (farD n ts s')) H E) ∧
  (∀ (s' g' c : Nat) (way : List Nat), s = s' → g = g' → s' < n → g' < n → at? (farD n ts g') s' = some c → WayTo (both ts) (farD n ts g') g' s' way → way.length ≤ 100 → ∀ p H', H p = none → Same H H' → PriceWay H' p c way → Q (.ref p) H')
end K

/-! raising out of a named except suite; defs whose exceptions have no context; defs called while an exception is handled -/
namespace L2H
open PySem PySem.Spec PyProof.Rows L2 HotX
/-- the context of an except suite that may raise, its wish xe -/
abbrev suiteA (X : Cx) (a : Addr) (pn : List (Addr × Obj)) (xe : Value → Shared → Prop) : Cx := { X with A := X.A.mark (some (.ref a)), calm := false, pn := pn, xe := xe }
theorem tracedZ_sameBut {h h' base : Heap} {e L : Addr} {Z : Obj → Prop} {fl : Value} {m : Str → Option Value} (x : HandSPX.TracedZ h base e Z fl) (hn : h.Ns L m) (hs : Heap.SameBut L h h') : HandSPX.TracedZ h' base e Z fl := by
  obtain ⟨oe, vs, T, oT, ts, he, hc, hd, h1, hnT, hTe, hT, hdT, h3⟩ := x
  obtain ⟨oL, es, ep, hoL, hdL, _⟩ := hn
  have neE : e ≠ L := fun q => by
    rw [q, hoL] at he
    have z := Option.some.inj he
    rw [← z, hdL] at hd
    cases hd
  have neT : T ≠ L := fun q => by
    rw [q, hoL] at hT
    have z := Option.some.inj hT
    rw [← z, hdL] at hdT
    cases hdT
  exact ⟨oe, vs, T, oT, ts, (hs.2 e neE).trans he, hc, hd, h1, hnT, hTe, (hs.2 T neT).trans hT, hdT, h3⟩
section
variable {X : Cx} {pins : List (Addr × Obj)} {σ : L2.St} {H : Hp} {s : Shared} {i : Nat} {n : Str}
/-- the name's slot out of hand: any state that differs at the def's own names only -/
theorem inv_gone {h' : Heap} {v : Option Value} {m : Str → Option Value} {t' : Nat} (I : Inv X pins σ H s) (hN : X.N.Nodup) (hi : X.N[i]? = some n) (hn0 : s.heap.Ns X.env.locals m)
    (hn' : h'.Ns X.env.locals (fun x => if x = n then v else m x)) (hs : Heap.SameBut X.env.locals s.heap h') : Inv X pins (σ.set i none) H { s with heap := h', toks := t' } := by
  obtain ⟨mI, hnI, hlk⟩ := id I.loc
  have em : ∀ y, mI y = m y := fun y => by
    obtain ⟨o1, es1, ep1, e1, d1, k1, f1⟩ := hnI
    obtain ⟨o2, es2, ep2, e2, d2, k2, f2⟩ := hn0
    rw [e1] at e2
    cases e2
    rw [d1] at d2
    cases d2
    rw [← f1 y, ← f2 y]
  have neL : ∀ b o, X.s_0.heap.get? b = some o → b ≠ X.env.locals := fun b o e => Nat.ne_of_lt (Nat.lt_of_lt_of_le (Heap.lt_size e) I.ok.above)
  refine ⟨I.ok, I.os, I.bare, ⟨fun b o e n hb hx => ?_, fun b o e n hb hx => ?_, I.base.free, fun b o e hx => ?_, I.base.tups, I.base.frzs, I.base.tbls⟩, ⟨_, hn', fun j y v' e1 e2 e3 => ?_⟩, fun y c e => ?_, I.free, I.freeC, fun p hp => ?_, fun b ob e => ?_, by simpa using I.len⟩
  · exact (hs.2 b (neL b o e)).trans (I.base.keep b o e n hb hx)
  · obtain ⟨sl, e1⟩ := I.base.slot b o e n hb hx
    exact ⟨sl, (hs.2 b (neL b o e)).trans e1⟩
  · obtain ⟨o', e1⟩ := I.base.there b o e hx
    exact ⟨o', (hs.2 b (neL b o e)).trans e1⟩
  · by_cases hj : j = i
    · subst hj
      by_cases hlt : j < σ.length
      · rw [List.getElem?_set_self hlt] at e2; cases e2
      · rw [List.getElem?_eq_none (by simpa using hlt)] at e2; cases e2
    · rw [List.getElem?_set_ne (Ne.symm hj)] at e2
      obtain ⟨u', r', q⟩ := hlk j y v' e1 e2 e3
      refine ⟨u', r', ?_⟩
      rcases q with ⟨k, e⟩ | ⟨k, c, e, z⟩
      · have ny : y ≠ n := fun e => hj (nodup_ix hN e1 (e ▸ hi))
        exact .inl ⟨k, (if_neg ny).trans ((em y).symm.trans e)⟩
      · exact .inr ⟨k, c, e, z.sameBut hs (I.cne y c e)⟩
  · obtain ⟨w', z⟩ := I.cell y c e
    exact ⟨w', z.sameBut hs (I.cne y c e)⟩
  · obtain ⟨e, n, ne, nf, d⟩ := I.pin p hp
    exact ⟨(hs.2 p.1 ne).trans e, n, ne, nf, d⟩
  · refine (I.hok b ob e).stay (fun c w' hc q => (hs.2 c ?_).trans q) (fun _ q => q) fun _ _ q => q
    intro z
    subst z
    rcases hc with hc | hc
    · rw [← hc, I.free] at e; cases e
    · rw [I.free] at hc; cases hc
/-- what flies out of a named suite: it is noted, the name goes, it is passed on and comes back into the def's own activation -/
theorem takes_as {a : Addr} {q : Addr × Obj} {pos : Pos} {Wout : WX} {xe E₁ E₂ : Value → Shared → Prop} (hs : X.stack = X.env :: X.outer) (hf : X.env.frame = some X.env.locals) (hN : X.N.Nodup) (hi : X.N[i]? = some n) (hln : X.env.kindOf n = some .local) (tk : L2.Takes X Wout) (ok : X.Ok)
    {u : Value} {s' : Shared} (x : L2.XE (suiteA X a (q :: (X.pn ++ pins)) xe) (fun c d σ H => Wout c d (σ.set i none) H) u s') :
    wpAny (model X.prog X.w) (X.A.mark (some (.ref a))) (noteFrame u X.env) (fun _ s₃ => wpAny (model X.prog X.w) (X.A.mark (some (.ref a))) (do bindName X.env n .none; unbindBehindTheSuite X.env n pos)
      (fun _ s₄ => wpAny (model X.prog X.w) (X.A.mark (some (.ref a))) (passOn "try.except-as" u X.env : Sem Flow) (fun _ _ => False) (notedBy (model X.prog X.w) (X.A.mark (some (.ref a))) X.env (cameBackBy (model X.prog X.w) X.A X.env X.xe)) s₄) E₂ s₃) E₁ s' := by
  obtain ⟨a2, B, sI, pn2, σ, H, cls, d, rfl, I, nb, up, sky, na, os, ag, w⟩ := x
  have J : Inv X pins σ H sI := Inv.unsuite (X := X) (a := a) (q := q) (pn' := pn2) (show Inv (X.suite a (q :: (X.pn ++ pins))) pn2 σ H sI from I.wish fun _ _ => False) ok
  have hfr : (X.A.mark (some (.ref a))).frames = some (X.env :: X.outer) := by
    show X.A.frames = _
    rw [ok.frames, hs]
  have sky : Sky B (X.env :: X.outer) a2 (Zc cls d) X.env.locals s'.heap := by rw [← hs]; exact sky
  have nb : ∀ b o, sI.heap.get? b = some o → b ∉ frs X.stack → B.get? b = some o := nb
  have hcls : (X.env.scope.kind == .class || (X.env.scope.kind == .module && X.env.locals != X.env.globals)) = false := by rw [ok.kind]; rfl
  obtain ⟨mI, hnI, _⟩ := id J.loc
  have fin : ∀ h1, HandSPX.HeldZ B (X.env :: X.outer) a2 (Zc cls d) X.env.locals h1 → s'.heap.UpToSlots h1 → wpAny (model X.prog X.w) (X.A.mark (some (.ref a))) (do bindName X.env n .none; unbindBehindTheSuite X.env n pos)
      (fun _ s₄ => wpAny (model X.prog X.w) (X.A.mark (some (.ref a))) (passOn "try.except-as" (.ref a2) X.env : Sem Flow) (fun _ _ => False) (notedBy (model X.prog X.w) (X.A.mark (some (.ref a))) X.env (cameBackBy (model X.prog X.w) X.A X.env X.xe)) s₄) E₂ { s' with heap := h1 } := by
    intro h1 hh up1
    have upA := up.trans up1
    have hn : h1.Ns X.env.locals mI := upA.ns hnI
    have hbL : B.get? X.env.locals = none := by
      obtain ⟨_, ⟨L', _, hf', hb', _⟩, _⟩ := hh.2.2.1
      rw [hf] at hf'
      rw [Option.some.inj hf']
      exact hb'
    refine wpAny_nameGoes_keeps hln hn hcls fun h2 v hn2 hs2 => ?_
    have hh2 : HandSPX.HeldZ B (X.env :: X.outer) a2 (Zc cls d) X.env.locals h2 :=
      ⟨fun b o hb => (hs2.2 b fun z => by rw [z, hbL] at hb; cases hb).trans (hh.1 b o hb), hh.2.1, Heap.FunFrames.sameBut hs2 hn2 hh.2.2.1, tracedZ_sameBut hh.2.2.2 hn hs2⟩
    obtain ⟨oe, vs, T, oT, ts, he, hz, hd, h1', r⟩ := id hh2.2.2.2
    unfold PySem.passOn
    refine wpAny_bind (wpAny_field he hd h1' ?_)
    rw [if_neg (show ¬ ((Value.ref T == Value.none) = true) from by simp)]
    rw [hf]
    have go : wpAny (model X.prog X.w) (X.A.mark (some (.ref a))) (setFlight (.ref a2) (some X.env.locals)) (fun _ s4 => wpAny (model X.prog X.w) (X.A.mark (some (.ref a))) (throw (.ref a2) : Sem Flow) (fun _ _ => False) (notedBy (model X.prog X.w) (X.A.mark (some (.ref a))) X.env (cameBackBy (model X.prog X.w) X.A X.env X.xe)) s4) (notedBy (model X.prog X.w) (X.A.mark (some (.ref a))) X.env (cameBackBy (model X.prog X.w) X.A X.env X.xe)) { s' with heap := h2, toks := s'.toks + 1 } := by
      refine HandSPX.setFlight_onZ hh2 fun h3 hh3 up3 => wpAny_throw ?_
      show wpAny _ _ (noteFrame (.ref a2) X.env) _ _ _
      refine HandSPX.againZ hf hh3.2.2.2 ?_
      obtain ⟨oe3, vs3, T3, oT3, ts3, he3, hz3, hd3, h13, r3⟩ := id hh3.2.2.2
      show wpAny _ X.A (do
        if (← field (.ref a2) 1) == .none then unsupported "frame.own-activation:exception-without-traceback"
        setFlight (.ref a2) X.env.frame) _ _ _
      refine wpAny_bind (wpAny_field he3 hd3 h13 ?_)
      rw [if_neg (show ¬ ((Value.ref T3 == Value.none) = true) from by simp)]
      rw [hf]
      refine HandSPX.setFlight_onZ hh3 fun h4 hh4 up4 => tk _ _ ?_
      obtain ⟨oL, es, ep, hoL, hdL, hkL, hfL⟩ := id hn2
      obtain ⟨oI, esI, epI, hoI, hdI, _⟩ := id hnI
      have eL : (sI.heap.update X.env.locals fun _ => oL).get? X.env.locals = some oL := Heap.get?_update_self (fun _ => oL) hoI (Obj.isFreed_of_dict hdL)
      have eO : ∀ b, b ≠ X.env.locals → (sI.heap.update X.env.locals fun _ => oL).get? b = sI.heap.get? b := fun b hb => Heap.get?_update_other _ _ (Ne.symm hb)
      have J2 : Inv X pins (σ.set i none) H { sI with heap := sI.heap.update X.env.locals fun _ => oL, toks := sI.toks } :=
        inv_gone (t' := sI.toks) (m := mI) (v := v) J hN hi hnI ⟨oL, es, ep, eL, hdL, hkL, hfL⟩ (Heap.SameBut.update _ _ _)
      have upB := up3.trans up4
      refine ⟨a2, B, _, pins, _, H, cls, d, rfl, J2, fun b o e hb => ?_, fun b o e hnf => ?_, .inr (.inr (by rw [hs]; exact hh4)), na, os, ag, w⟩
      · have hbL2 : b ≠ X.env.locals := fun z => hb (by rw [z, hs]; exact List.mem_filterMap.mpr ⟨X.env, List.mem_cons_self, hf⟩)
        exact nb b o ((eO b hbL2).symm.trans e) hb
      · by_cases hbL2 : b = X.env.locals
        · subst hbL2
          have e' : some oL = some o := eL.symm.trans e
          cases e'
          exact upB _ _ hoL hnf
        · obtain ⟨sl, e1⟩ := upA b o ((eO b hbL2).symm.trans e) hnf
          obtain ⟨sl2, e2⟩ := upB b _ ((hs2.2 b hbL2).trans e1) hnf
          exact ⟨sl2, e2⟩
    first
      | exact wpAny_bind (wpAny_pure (wpAny_bind go))
      | exact wpAny_bind go
  rcases sky with ⟨hB, hn, hl, oe, vs, he, hz, hd, h1⟩ | fl | hh
  · exact HandSPX.look_newZ Zc.steady hfr hl hf he hB hn hd h1 hz fin
  · exact HandSPX.looks_onZ Zc.steady hfr hf fl fin
  · exact HandSPX.againZ hf hh.2.2.2 (fin s'.heap hh (Heap.UpToSlots.refl _))
end
section
variable {X : Cx} {x n : Str} {c : Value} {i : Nat} {body suite : List Stmt} {b₀ : Stmt} {np pos pos' : Pos} {tb : WX → TS} {ts : Addr → Value → Option Addr → TS} {Wout : WX}
/-- try: body, except x as n: suite that may raise out -/
theorem ps_try_asX (hs : X.stack = X.env :: X.outer) (hf : X.env.frame = some X.env.locals) (hN : X.N.Nodup) (hi : X.N[i]? = some n) (hln : X.env.kindOf n = some .local) (hc : Names X x c) (tk : L2.Takes X Wout)
    (hb : ∀ (W : WX) (pn : List (Addr × Obj)) (xe : Value → Shared → Prop), L2N.Takes (X.tr pn xe) W → PassesOwn (model X.prog X.w) X.A X.env xe → PSs (X.tr pn xe) body (tb W))
    (hsu : ∀ (a : Addr) (oe : Obj) (cls : Value) (d : Option Addr) (pn : List (Addr × Obj)) (xe : Value → Shared → Prop), L2N.Zn cls d oe → (∃ vs, oe.data = .fields vs) → L2.Takes (suiteA X a ((a, oe) :: pn) xe) (fun c d σ H => Wout c d (σ.set i none) H) → HotC (suiteA X a ((a, oe) :: pn) xe) →
      PSs (suiteA X a ((a, oe) :: pn) xe) (b₀ :: suite) (ts a cls d)) :
    PS X (.Try body [.ExceptHandler (some (.Name x np)) (some n) (b₀ :: suite) pos'] [] [] pos) (fun D σ H => tb (wAs X.K c i ts Wout D) D σ H) := by
  refine ⟨fun pins s σ H D I h => ?_⟩
  have ok := I.ok
  have hfr : X.A.frames = some (X.env :: X.outer) := by rw [ok.frames, hs]
  have hloc : Loc X.env.scope n := .inl hln
  refine wpAny_Try_except ?_
  refine wpAny_mono ((hb (wAs X.K c i ts Wout D) (X.pn ++ pins) (fun e s₁ => wpAny (model X.prog X.w) X.A (noteFrame e X.env) (fun _ s₂ => wpAny (model X.prog X.w) X.A (setFlight e none) (fun _ s₃ =>
    wpAny (model X.prog X.w) X.A (handleBy e X.env [.ExceptHandler (some (.Name x np)) (some n) (b₀ :: suite) pos']) (SP X pins D) X.xe s₃) X.xe s₂) X.xe s₁) (fun u s' xx => ?_) PassesOwn.looking).run [] s σ H D (I.toTry _) h) (fun f s1 hsp => ?_) (fun e s1 he => he)
  · obtain ⟨a, B, sI, pins', σ', H', cls, d, rfl, J', nb, up, sky, na, os, ag, b, hb1, hyes, hno⟩ := xx
    have J : Inv X pins σ' H' sI := J'.ofTry ok
    have sky' : Sky B (X.env :: X.outer) a (L2N.Zn cls d) X.env.locals s'.heap := by rw [← hs]; exact sky
    show wpAny (model X.prog X.w) X.A (noteFrame (.ref a) X.env) _ _ _
    refine L2N.Sky.land L2N.Zn.steady hfr hf sky' fun h3 fl3 up3 => ?_
    have J3 : Inv X pins σ' H' { s' with heap := h3 } := J.landed nb fl3.1 (up.trans up3) os ag
    obtain ⟨oe3, vs3, he3, hz3, hd3⟩ := fl3.there
    have nfr : a ∉ frs (X.env :: X.outer) := fun hm => by
      obtain ⟨_, o', e', hnf⟩ := fl3.2.2.1.mem hm
      rw [he3] at e'; cases e'
      exact hnf _ hd3
    have nL : a ≠ X.env.locals := fun z => nfr (List.mem_filterMap.mpr ⟨X.env, List.mem_cons_self, by rw [hf, z]⟩)
    have nF : a ∉ X.fs := fun hm => by
      obtain ⟨e, he, q⟩ := List.mem_filterMap.mp hm
      exact nfr (List.mem_filterMap.mpr ⟨e, List.mem_cons_of_mem _ he, q⟩)
    have S3 := J3.suite he3 hd3 na nL nF
    refine wpAny_handleBy_cons (codeAny_handlers_test ?_) (by intro q; cases q)
    have LT : PySem.W.Looks (model X.prog X.w) h3 (typeOf (.ref a)) cls := fun A Q E s k q => wpAny_typeOf_ref (k _ _ he3) (by rw [hz3.1]; exact q)
    have LM := PySem.W.exm_one (M := model X.prog X.w) (J3.kIn) LT hb1
    have test : ∀ {Q : Value → Shared → Prop} {E : Value → Shared → Prop}, Q c { s' with heap := h3 } → wpAny (model X.prog X.w) (X.A.mark (some (.ref a))) (eval (.Name x np) X.env) Q E { s' with heap := h3 } := fun {Q E} q => by
      obtain ⟨hg, hdbg, hm | ⟨hm, hv, hnn⟩⟩ := hc
      · exact ld_glob (X := X.suite a ((a, oe3) :: (X.pn ++ pins))) S3 hg hm q hdbg
      · exact ld_blt (X := X.suite a ((a, oe3) :: (X.pn ++ pins))) S3 hg hm hv q hnn hdbg
    refine test (LM.here ?_)
    cases b with
    | true =>
      refine codeAny_handlers_suite_as ?_
      refine HandSPX.lands_againZ fl3 fun h4 fl4 up4 => ?_
      have J4 : Inv X pins σ' H' { s' with heap := h4 } := J.landed nb fl4.1 ((up.trans up3).trans up4) os ag
      obtain ⟨oe4, vs4, he4, hz4, hd4⟩ := fl4.there
      have S4 := J4.suite he4 hd4 na nL nF
      refine store_ok (X := X.suite a ((a, oe4) :: (X.pn ++ pins))) (v := .ref a) S4 hN hi hloc rfl (fun s5 S5 => ?_) (.inr hln)
      have hot : ∀ xe, HotC (suiteA X a ((a, oe4) :: (X.pn ++ pins)) xe) := fun xe => ⟨(a, oe4), ⟨rfl, vs4, hd4, hz4.2.2 vs4 hd4⟩, List.mem_cons_self⟩
      have end_ : ∀ {σ6 : L2.St} {H6 : Hp} {s6 : Shared} {Q : Shared → Prop} {xe : Value → Shared → Prop} {E : Value → Shared → Prop}, Inv (suiteA X a ((a, oe4) :: (X.pn ++ pins)) xe) [] σ6 H6 s6 → (∀ s7, Inv X pins (σ6.set i none) H6 s7 → Q s7) → wpAny (model X.prog X.w) X.A (do bindName X.env n .none; unbindBehindTheSuite X.env n pos') (fun _ s7 => Q s7) E s6 := fun {σ6 H6 s6 Q xe E} S6 hq =>
        gone_ok (Inv.unsuite (X := X) (a := a) (q := (a, oe4)) (pn' := []) (show Inv (X.suite a ((a, oe4) :: (X.pn ++ pins))) [] σ6 H6 s6 from S6.wish fun _ _ => False) ok) hN hi hln hq
      refine wpAny_mono ((hsu a oe4 cls d (X.pn ++ pins) _ hz4 ⟨_, hd4⟩ (fun u s' x => takes_as (pins := pins) (pos := pos') hs hf hN hi hln tk ok x) (hot _)).run [] s5 _ H' _ (Inv.unwish (X := suiteA X a ((a, oe4) :: (X.pn ++ pins)) _) (E := fun _ _ => False) S5) (hyes rfl a na)) (fun f s6 hsp => ?_) (fun _ _ z => z)
      cases f with
      | next => obtain ⟨σ6, H6, S6, q6⟩ := hsp; exact end_ S6 fun s7 J7 => ⟨_, _, J7, q6⟩
      | brk => obtain ⟨σ6, H6, S6, q6⟩ := hsp; exact end_ S6 fun s7 J7 => ⟨_, _, J7, q6⟩
      | cont => obtain ⟨σ6, H6, S6, q6⟩ := hsp; exact end_ S6 fun s7 J7 => ⟨_, _, J7, q6⟩
      | ret u => obtain ⟨v6, σ6, H6, S6, r6, q6⟩ := hsp; exact end_ S6 fun s7 J7 => ⟨_, _, _, J7, r6, q6⟩
    | false =>
      show wpAny _ X.A (handleBy (.ref a) X.env []) _ _ _
      refine wpAny_handleBy_nil ?_
      have fl3' := flyingZ_imp (Z' := Zc cls d) (fun o z => z.zc) fl3
      obtain ⟨k1, k2, k3, oe, vs, T, oT, ts', he, hz, hd, h1, hr⟩ := id fl3'
      unfold PySem.passOn
      refine wpAny_bind (wpAny_field he hd h1 ?_)
      rw [if_neg (show ¬ ((Value.ref T == Value.none) = true) from by simp)]
      have fin : wpAny (model X.prog X.w) X.A (setFlight (.ref a) X.env.frame) (fun _ s4 => wpAny (model X.prog X.w) X.A (throw (.ref a) : Sem Flow) (SP X pins D) X.xe s4) X.xe { s' with heap := h3 } := by
        rw [hf]
        refine HandSPX.setFlight_upZ fl3' fun h4 hh4 up4 => wpAny_throw (tk _ _ ?_)
        exact ⟨a, B, sI, pins, σ', H', cls, d, rfl, J, nb, (up.trans up3).trans up4, .inr (.inr (by rw [hs]; exact hh4)), na, os, ag, hno rfl⟩
      first
        | exact wpAny_bind (wpAny_pure (wpAny_bind fin))
        | exact wpAny_bind fin
  · cases f with
    | next => obtain ⟨σ', H', J', q⟩ := hsp; exact wpAny_execs_nil ⟨σ', H', J'.ofTry ok, q⟩
    | brk => obtain ⟨σ', H', J', q⟩ := hsp; exact ⟨σ', H', J'.ofTry ok, q⟩
    | cont => obtain ⟨σ', H', J', q⟩ := hsp; exact ⟨σ', H', J'.ofTry ok, q⟩
    | ret u => obtain ⟨v, σ', H', J', r, q⟩ := hsp; exact ⟨v, σ', H', J'.ofTry ok, r, q⟩
end
end L2H
namespace L2
open PySem PySem.Spec PyProof.Rows L2H HotX
section
variable {P : Program} {w : World} {K : PySem.W.Frag} {mg : Str → Option Value} {base : Heap}
/-- as Fun.okX, for a def whose exceptions have no context -/
theorem Fun.okN {x qual : Str} {st : Stmt} {f : Addr} {fd : FuncData} {N ps : List Str} {k : Nat} {sp : Sp} (F : Fun K x qual st f fd) (S : FnScope N ps (defScope st)) (len : ∀ vs H Q E, sp vs H Q E → vs.length = ps.length)
    (hbody : ∀ (cdv : Value) (A : Around) (outer : List Env) (s : Shared) (H : Hp) (vs : List V) (Q : VK) (E : XK), Room k (A.deeper (envOfC qual (defScope st) s.heap.objs.size f cdv)) → sp vs H Q E →
      ∃ t, PSs (cxOf (L2N.CX P w) P w K mg base N qual (defScope st) f cdv A outer s H E) (defBody st) t ∧ t { nx := fun _ H' => Q .non H', rt := Q } (start N vs) H) : FnOk P w K mg base (L2N.CX P w) (k + 1) f fd ps sp := by
  obtain ⟨oc, od, kV, doc, pm, an, cdv, ct, osl, rfl, lk, hcd⟩ := F.ex
  exact fn_of lk hcd S len fun A outer s H vs Q E hr hsp => hbody cdv A outer s H vs Q E hr hsp
theorem FnOk.toX {k : Nat} {f : Addr} {fd : FuncData} {ps : List Str} {sp : Sp} (F : FnOk P w K mg base (L2N.CX P w) k f fd ps sp) : FnOk P w K mg base (L2.CX P w) k f fd ps sp :=
  ⟨F.len, fun A outer s H args us vs Q E hr e b r h => codeAny_mono (F.run A outer s H args us vs Q E hr e b r h) fun r s' q => by
    cases r with
    | error e =>
      obtain ⟨a, B, H', cls, d, e1, fl, hok, ub, na, os, ag, hE⟩ := q
      exact ⟨a, B, H', cls, d, e1, flyingZ_imp (fun o z => z.zc) fl, hok, ub, na, os, ag, hE⟩
    | ok fl => cases fl <;> exact q⟩
theorem _root_.L2H.RoomH.u2 {k : Nat} {A : Around} (r : RoomH k A) : A.units + 2 < cLine := by have := r.un; omega
/-- a def's promise while an exception is handled -/
theorem Fun.okH {x qual : Str} {st : Stmt} {f : Addr} {fd : FuncData} {N ps : List Str} {k : Nat} {sp : Sp} (F : Fun K x qual st f fd) (S : FnScope N ps (defScope st)) (len : ∀ vs H Q E, sp vs H Q E → vs.length = ps.length)
    (hbody : ∀ (cdv : Value) (A : Around) (outer : List Env) (s : Shared) (H : Hp) (vs : List V) (Q : VK) (E : XK) (p : Addr × Obj), Hot1 A p → RoomH k (A.deeper (envOfC qual (defScope st) s.heap.objs.size f cdv)) → sp vs H Q E →
      ∃ t, PSs (cxH CX0 P w K mg base N qual (defScope st) f cdv A outer s H E p).nox (defBody st) t ∧ t { nx := fun _ H' => Q .non H', rt := Q } (start N vs) H) : FnH P w K mg base CX0 (k + 1) f fd ps sp := by
  obtain ⟨oc, od, kV, doc, pm, an, cdv, ct, osl, rfl, lk, hcd⟩ := F.ex
  refine fn_ofH lk hcd S len fun A outer s H vs Q E p hp hr hsp => ?_
  obtain ⟨t, h, q⟩ := hbody cdv A outer s H vs Q E p hp hr hsp
  exact ⟨t, h.nox, q⟩
theorem FunD.okH {x qual : Str} {params : Arguments} {body : List Stmt} {scope : Scope} {dvs : List V} {f : Addr} {fd : FuncData} {N ps : List Str} {k : Nat} {sp : Sp} (F : FunD K x qual params body scope dvs [] f fd) (S : FnScope N ps scope) (len : ∀ vs H Q E, sp vs H Q E → vs.length = ps.length)
    (hbody : ∀ (cdv : Value) (A : Around) (outer : List Env) (s : Shared) (H : Hp) (vs : List V) (Q : VK) (E : XK) (p : Addr × Obj), Hot1 A p → RoomH k (A.deeper (envOfC qual scope s.heap.objs.size f cdv)) → sp vs H Q E →
      ∃ t, PSs (cxH CX0 P w K mg base N qual scope f cdv A outer s H E p).nox body t ∧ t { nx := fun _ H' => Q .non H', rt := Q } (start N vs) H) : FnH P w K mg base CX0 (k + 1) f fd ps sp := by
  obtain ⟨⟨oc, od, dV, kV, doc, pm, an, cdv, ct, osl, rfl, lk, hcd, _⟩, _⟩ := F
  refine fn_ofH lk hcd S len fun A outer s H vs Q E p hp hr hsp => ?_
  obtain ⟨t, h, q⟩ := hbody cdv A outer s H vs Q E p hp hr hsp
  exact ⟨t, h.nox, q⟩
end
theorem hotC_cxH {CX : CXT} {P : Program} {w : World} {K : PySem.W.Frag} {mg : Str → Option Value} {base : Heap} {N : List Str} {qual : Str} {scope : Scope} {f : Addr} {cd : Value} {A : Around} {outer : List Env} {s : Shared} {H : Hp} {E : XK} {p : Addr × Obj} (h : Hot1 A p) :
    HotC (cxH CX P w K mg base N qual scope f cd A outer s H E p).nox := ⟨p, ⟨h.1, h.2⟩, List.mem_cons_self⟩
section
variable {X : Cx}
/-- C.m(e, ..) while an exception is handled -/
theorem pe_clsfH {CX : CXT} {k : Nat} {C f : Addr} {fd : FuncData} {ps : List Str} {mc : Value} {sp : Sp} {E : XK} {o e : Expr} {es : List Expr} {m : Str} {pos apos : Pos} {ta : TE} {t : TA} {pl : Sem Bool} (he : PE X o ta) (r : ClX.CRead X.K C mc) (at_ : PySem.W.findCls X.K (.ref C) mc m = some (.val (.ref f)))
    (F : FnH X.prog X.w X.K X.mg X.base CX k f fd ps sp) (hr : RoomH k X.A) (hc : HotC X) (hk : PySem.W.keepIn X.K (.ref f) = true) (hb : Binds X.K fd ps []) (hx : ∀ σ, PassesAt CX X σ E) (ha : PA X (e :: es) t)
    (hst : starEach (e :: es) X.env = (false, eval e X.env) :: starEach es X.env := by rfl) (hpl : (backTo pos (starEach es X.env)).any (·.1) = false := by rfl)
    (ht : eval (.Call (.Attribute o m apos) (e :: es) [] pos) X.env = (do
      let ov ← eval o X.env
      standAt apos.atName
      let (f, first) ← holding [ov] (getMethod ov m pl)
      callWith pos f first (backTo pos (starEach (e :: es) X.env)) (backToKw pos (keywordEach [] X.env))) := by rfl) :
    PE X (.Call (.Attribute o m apos) (e :: es) [] pos) (tClsF C sp E ta t) := by
  refine ⟨fun pins s σ H Q I h => ?_⟩
  refine PySem.W.methodCall_KW (pl := pl) (thn (he.run pins s σ H _ I h) fun u s1 ⟨x, H1, I1, rx, ex, q⟩ => ?_) ht
  subst ex
  obtain rfl : u = Value.ref C := rx
  refine PySem.W.method_cls I1.kIn r.ga (ClX.getcval_ok (v := .ref f) I1 r ⟨at_, rfl⟩ fun s2 I2 => ?_)
  refine PySem.W.callWith_K (h₀ := X.base) I2.ok.mod.kin hk (thn (ha.run pos pins s2 σ H1 _ I2 q) fun us s3 ⟨vs, H2, I3, rv, q2⟩ => ⟨I3.kIn, ?_⟩) hst hpl
  exact run_fnH (E := fun _ => E) F hr hc hb (hx σ) I3 rv q2
/-- C(e, ..), an exception with no context -/
theorem pmkN_oex {CX : CXT} {x : Str} {e : Expr} {es : List Expr} {ta : TA} {p pos : Pos} {C fI : Addr} {k : Nat} {fd : FuncData} {ps : List Str} {sp : Sp} {ds : List Value} {dvs : List V} (T : OexC X.K C) (iC : PySem.W.findIn X.K (.ref C) "__init__" = some (some (.ref fI))) (tI : PySem.W.typeIn X.K (.ref fI) = some (.type "function"))
    (F1 : FnOk X.prog X.w X.K X.mg X.base CX k fI fd ps sp) (hr : Room (k + 1) X.A) (hb : Binds X.K fd ps ds) (hd : Vals dvs ds) (hx : Passes CX X (fun _ _ _ => False)) (hg : Gl X x) (hm : X.mg x = some (.ref C)) (ha : PA X (e :: es) ta)
    (hdb : (x == ("__debug__" : Str)) = false := by decide) (he : starEach (e :: es) X.env = (false, eval e X.env) :: starEach es X.env := by rfl) (hpl : (backTo pos (starEach es X.env)).any (·.1) = false := by rfl) :
    L2N.PMk X (.Call (.Name x p) (e :: es) [] pos) (tMkO C sp dvs ta) := by
  intro pins s σ H Q I h
  obtain ⟨nm, q, N, bs, bm, sn, sub, ab, col, dd, k0, k1, k2, k3, k5, hC, hbm⟩ := T.cls
  refine wpAny_Call_Name_kw (ld_glob I hg hm ?_ hdb)
  refine PySem.W.callWith_K (h₀ := X.base) I.ok.mod.kin T.kC (thn (ha.run pos pins s σ H _ I h) fun us s1 ⟨vs, H1, I1, r1, hz, q1⟩ => ⟨I1.kIn, ?_⟩) he hpl
  show wpAny _ _ (call (.ref C) us) _ _ _
  obtain ⟨hp, g, dr, tk, os⟩ := s1
  have hsz : hp.objs.size ≤ hp.objs.size + 1 := Nat.le_succ _
  have hn : H1 (hp.objs.size + 1) = none := I1.hok.fresh hsz
  have hq := q1 (hp.objs.size + 1) hn
  have kk : ∀ b o, hp.get? b = some o → ((hp.push (PySem.W.kdv_tup us)).push (PySem.HandSPX.excO C hp.objs.size)).get? b = some o := fun b o e => Heap.get?_push_of_some _ (Heap.get?_push_of_some _ e)
  have hget : ((hp.push (PySem.W.kdv_tup us)).push (PySem.HandSPX.excO C hp.objs.size)).get? (hp.objs.size + 1) = some (PySem.HandSPX.excO C hp.objs.size) := by heap_get
  have I2 : Inv X pins σ (upd H1 (hp.objs.size + 1) (exo (hp.objs.size + 1) C none)) ⟨(hp.push (PySem.W.kdv_tup us)).push (PySem.HandSPX.excO C hp.objs.size), g, dr, tk, os⟩ :=
    I1.laid (t' := tk) (a := hp.objs.size + 1) (o := exo (hp.objs.size + 1) C none) (h' := (hp.push (PySem.W.kdv_tup us)).push (PySem.HandSPX.excO C hp.objs.size)) kk hsz (exo_ok hget)
  have r2 : Vals (V.ref (hp.objs.size + 1) :: (vs ++ dvs)) (Value.ref (hp.objs.size + 1) :: (us ++ ds)) := .cons rfl (r1.append hd)
  have hl : (Value.ref (hp.objs.size + 1) :: us ++ ds).length = ps.length := by
    have e := r2.length
    rw [F1.len _ _ _ _ hq] at e
    exact e.symm
  have hus : us.length ≤ sizeLine := by
    rw [← Paired.length r1, sizeLine_eq]
    omega
  refine wpAny_call (PySem.HandSPX.call_own F.excBase_ValueError (fun Y => PySem.HandSPX.refsVE_contains Y bm hbm) (I1.kIn _ _ hC) (PySem.W.looks_findIn I1.kIn iC) (fun self => PySem.W.bind_fn I1.kIn self tI) hus
    (codeAny_mono (F1.run _ X.stack _ _ ⟨Value.ref (hp.objs.size + 1) :: us, []⟩ (Value.ref (hp.objs.size + 1) :: (us ++ ds)) _ _ (fun _ _ _ => False) (hr.make C us []) (I2.env0.make C us []) (hb _ (Value.ref (hp.objs.size + 1) :: us) I2.kIn hl) r2 hq) fun r s' hq' => ?_))
  cases r with
  | error er => exact hx pins σ _ _ er s' I2 hq'
  | ok fl =>
    cases fl with
    | ret u =>
      obtain ⟨v, H2, os2, bare2, un2, hok2, rv, ev, d, fs, ea, ed, hd1, q2⟩ := hq'
      subst ev
      obtain ⟨h2, g2, d2, t2, os'⟩ := s'
      obtain ⟨t0, G, J, kG, ge, hoe, na⟩ := mk_end0 (d2 := d2) (t2 := t2) I1 hsz kk un2 hok2 os2 bare2 ea ed hd1
      refine ⟨rv, hp.objs.size + 1, _, _, ⟨G, g2, d2, t2, os'⟩, _, .ref C, some d, rfl, J, kG, ge, hoe, ⟨rfl, rfl, fun vs hv => ?_⟩, rfl, rfl, na, rfl, bare2, raises_own T.exC T.tyC, q2⟩
      cases hv
      rfl
    | next => exact False.elim hq'
    | brk => exact False.elim hq'
    | cont => exact False.elim hq'
theorem pass0H {X : Cx} {E : XK} : ∀ σ, PassesAt CX0 X σ E := fun _ _ _ _ _ _ _ h => h.elim
end
end L2
namespace K
open PySem PySem.Spec PyProof.Rows L2
open Sw (T3 Dist at? relax roundOf rounds IsNext Cand IsFar nbr candL WayTo lotOf)
/-- a def whose exceptions have no context, as it can be called -/
structure CalN (P : Program) (w : World) (K : PySem.W.Frag) (mg : Str → Option Value) (base : Heap) (k : Nat) (x : Str) (f : Addr) (fd : FuncData) (ps : List Str) (sp : Sp) : Prop where
  ok : FnOk P w K mg base (L2N.CX P w) k f fd ps sp
  g : mg x = some (.ref f)
  kp : PySem.W.keepIn K (.ref f) = true
  b : Binds K fd ps []
theorem CalN.x {P : Program} {w : World} {K : PySem.W.Frag} {mg : Str → Option Value} {base : Heap} {k : Nat} {x : Str} {f : Addr} {fd : FuncData} {ps : List Str} {sp : Sp} (h : CalN P w K mg base k x f fd ps sp) : CalX P w K mg base k x f fd ps sp := ⟨h.ok.toX, h.g, h.kp, h.b⟩
/-- a refusal's class with the promise of its __init__ while an exception is handled -/
structure ExcH (P : Program) (w : World) (K : PySem.W.Frag) (mg : Str → Option Value) (base : Heap) (k : Nat) (x : Str) (C fI : Addr) (fd : FuncData) (ps : List Str) (sp : Sp) : Prop where
  t : ExcT K mg x C fI
  ok : L2H.FnH P w K mg base CX0 k fI fd ps sp
  b : Binds K fd ps []
/-- C(i, j) of two ints -/
def spIn2 (K : PySem.W.Frag) (f g wd : Str) : Sp := fun vs H Q _ => ∃ (a C : Addr) (i j : Int), vs = [.ref a, .int i, .int j] ∧ i.natAbs.log2 < 1920 ∧ j.natAbs.log2 < 1920 ∧ OexC K C ∧ PySem.W.findIn K (.ref C) "word" = some none ∧ PySem.W.findIn K (.ref C) f = some none ∧ PySem.W.findIn K (.ref C) g = some none ∧ H a = some (exo a C none) ∧
  ∀ (dx : Addr) (H' : Hp), H dx = none → dx ≠ a → (∀ b o, H b = some o → b ≠ a → H' b = some o) → H' a = some (exo a C (some dx)) → H' dx = some (exd dx [(g, .int j), (f, .int i), ("word", .str wd)]) → Q .non H'
def TieX (CT : Addr) (i j : Int) (H : Hp) (E : XK) : Prop := ∀ (d : Addr) (H' : Hp), H d = none → Same H H' → H' d = some (.xd [("other", .int j), ("one", .int i), ("word", .str "notie")]) → E (.ref CT) (some d) H'
/-- the ties but those that join u and v -/
def lft (ts : List T3) (u v : Nat) : List T3 := ts.filter fun e => !((e.1 == u && e.2.1 == v) || (e.2.1 == u && e.1 == v))
theorem lft_sub {ts : List T3} {u v : Nat} : ∀ e ∈ lft ts u v, e ∈ ts := fun e m => (List.mem_filter.mp m).1
theorem lft_len (ts : List T3) (u v : Nat) : (lft ts u v).length ≤ ts.length := List.length_filter_le _ _
theorem lft_fits {n : Nat} {ts : List T3} {u v : Nat} (h : Fits n ts) : Fits n (lft ts u v) := fun e m => h e (lft_sub e m)
theorem lft_good {n : Nat} {ts : List T3} {u v : Nat} (h : Good n ts) : Good n (lft ts u v) := fun e m => h e (lft_sub e m)
def spWithout : Sp := fun vs H Q _ => ∃ (u v : Nat) (t : Addr) (ts : List T3), vs = [.ref t, .int (u : Nat), .int (v : Nat)] ∧ TiesAt H t ts ∧ ts.length ≤ 400 ∧ ∀ p H', H p = none → Same H H' → TiesAt H' p (lft ts u v) → Q (.ref p) H'
def spRoundX (CH CT CL : Addr) : Sp := fun vs H Q E => ∃ (n : Nat) (s g : Int) (t : Addr) (ts : List T3), vs = [.int (n : Nat), .ref t, .int s, .int g] ∧ n ≤ 9 ∧ s.natAbs.log2 < 1920 ∧ g.natAbs.log2 < 1920 ∧ TiesAt H t ts ∧ ts.length ≤ 400 ∧ Fits n ts ∧ (∀ e ∈ ts, 1 ≤ e.2.2 ∧ e.2.2 ≤ 9) ∧
  (¬ (0 ≤ s ∧ s < n) → HouseX CH s H E) ∧ (0 ≤ s ∧ s < n → ¬ (0 ≤ g ∧ g < n) → HouseX CH g H E) ∧ (0 ≤ s ∧ s < n → g = s → TieX CT s g H E) ∧
  (∀ s' g' : Nat, s = s' → g = g' → s' < n → g' < n → s' ≠ g' → at? (farD n (lft ts s' g') g') s' = none → LotX CL "lone" (lotOf n (farD n (lft ts s' g') s')) H E) ∧
  (∀ (s' g' c : Nat) (way : List Nat), s = s' → g = g' → s' < n → g' < n → s' ≠ g' → at? (farD n (lft ts s' g') g') s' = some c → WayTo (both (lft ts s' g')) (farD n (lft ts s' g') g') g' s' way → way.length ≤ 100 → ∀ p H', H p = none → Same H H' → PriceWay H' p c way → Q (.ref p) H')
end K
namespace L2
open PySem PySem.Spec PyProof.Rows
section
variable {X : Cx}
/-- x not in a tuple of data -/
def rNotInDT (K : PySem.W.Frag) : R2 := fun x y H Q => ∃ d ds, Dp K H x d ∧ Dp K H y (.tuple ds) ∧ SeqAt.shaped d = true ∧ SeqAt.shaped (.tuple ds) = true ∧ Q (.bl (!ds.any fun z => PyData.eqv z d)) H
theorem op_notInDT (hu : X.A.units + 65 < cLine) : OpR X (compareOp .NotIn) (rNotInDT X.K) := by
  intro pins s σ H x y v u Q I rx ry h
  obtain ⟨d, ds, hd, he, sd, se, q⟩ := h
  obtain ⟨as, r1⟩ := Dp.reads I d x v hd rx
  obtain ⟨bs, r2⟩ := Dp.reads I (.tuple ds) y u he ry
  exact SeqAt.notIn_tuple_reads r2 r1 (SeqAt.canLay_of_shaped se) (SeqAt.canLay_of_shaped sd) (room_in_shaped sd hu) ⟨.bl _, H, I, rfl, q⟩
end
end L2
namespace K
open PySem PySem.Spec PyProof.Rows L2
def pairD (i j : Int) : PyData := .tuple [.int i, .int j]
theorem pair_shaped (i j : Int) : SeqAt.shaped (pairD i j) = true := by
  unfold SeqAt.shaped pairD
  simp [PyData.canLay0, PyData.canLayAll0, PyData.depth, PyData.depthAll]
theorem pairs_shaped (i j k l : Int) : SeqAt.shaped (.tuple [pairD i j, pairD k l]) = true := by
  unfold SeqAt.shaped pairD
  simp [PyData.canLay0, PyData.canLayAll0, PyData.depth, PyData.depthAll]
theorem pair_eqv (i j k l : Int) : PyData.eqv (pairD i j) (pairD k l) = decide (i = k ∧ j = l) := by
  simp [pairD, PyData.eqv, PyData.eqvAll, Bool.beq_eq_decide_eq]
theorem dp_pair {K : PySem.W.Frag} {H : Hp} {p : Addr} {i j : Int} (h : H p = some (.tup [.int i, .int j])) : Dp K H (.ref p) (pairD i j) := .tup (SqT.of h) (.cons (.int _) (.cons (.int _) .nil))
end K

/-! refusals held as values -/
namespace L2
open PySem PySem.Spec PyProof.Rows
/-- what a class must have for isinstance of its instances -/
structure IsC (K : PySem.W.Frag) (C : Addr) : Prop where
  cl : (PySem.W.clsIn K C).isSome = true
  ha : PySem.W.findIn K (.ref C) "__class__" = some (some (.builtin "object.__class__"))
  hn : PySem.W.specialIn K (.builtin "object.__class__") "__get__" = some (some (.builtin "getset_descriptor.__get__"))
  ht : PySem.W.takesIn K (.builtin "object.__class__") = some true
  hm : PySem.W.mroIn K C (.type "object") = some true
section
variable {X : Cx}
/-- a refusal that stands: its class, its fields -/
def ExAt (H : Hp) (a C : Addr) (fs : List (Str × V)) : Prop := ∃ dx, H a = some (exo a C (some dx)) ∧ H dx = some (exd dx fs)
theorem ExAt.same {H H' : Hp} {a C : Addr} {fs : List (Str × V)} (h : ExAt H a C fs) (s : ∀ b o, H b = some o → H' b = some o) : ExAt H' a C fs := by
  obtain ⟨dx, h1, h2⟩ := h
  exact ⟨dx, s _ _ h1, s _ _ h2⟩
theorem ExAt.put {H : Hp} {a C l : Addr} {fs : List (Str × V)} {xs ys : List V} (h : ExAt H a C fs) (hl : H l = some (.lst xs)) : ExAt (upd H l (.lst ys)) a C fs := by
  obtain ⟨dx, h1, h2⟩ := h
  refine ⟨dx, ?_, ?_⟩
  · rw [upd_ne (ne_of h1 hl (fun z => by cases z))]; exact h1
  · rw [upd_ne (ne_of h2 hl (fun z => by cases z))]; exact h2
/-- C(e, ..) as a value: R tells what is asked of the arguments -/
theorem pe_valG {CX : CXT} {R : List V → Hp → VK → Prop} {x : Str} {e : Expr} {es : List Expr} {ta : TA} {p pos : Pos} {C fI : Addr} {k : Nat} {fd : FuncData} {ps : List Str} {sp : Sp} (T : OexC X.K C) (iC : PySem.W.findIn X.K (.ref C) "__init__" = some (some (.ref fI))) (tI : PySem.W.typeIn X.K (.ref fI) = some (.type "function"))
    (F1 : FnOk X.prog X.w X.K X.mg X.base CX k fI fd ps sp) (hr : Room (k + 1) X.A) (hb : Binds X.K fd ps []) (hx : Passes CX X (fun _ _ _ => False)) (hg : Gl X x) (hm : X.mg x = some (.ref C)) (ha : PA X (e :: es) ta) (hR : ∀ vs H1 Q, R vs H1 Q → vs.length ≤ 1000 ∧ ∀ a, H1 a = none → sp (.ref a :: vs) (upd H1 a (exo a C none)) (fun v H2 => v = .non ∧ Q (.ref a) H2) (fun _ _ _ => False))
    (hdb : (x == ("__debug__" : Str)) = false := by decide) (he : starEach (e :: es) X.env = (false, eval e X.env) :: starEach es X.env := by rfl) (hpl : (backTo pos (starEach es X.env)).any (·.1) = false := by rfl) :
    PE X (.Call (.Name x p) (e :: es) [] pos) (fun σ H Q => ta σ H fun vs H1 => R vs H1 Q) := by
  refine ⟨fun pins s σ H Q I h => ?_⟩
  obtain ⟨nm, q, N, bs, bm, sn, sub, ab, col, dd, k0, k1, k2, k3, k5, hC, hbm⟩ := T.cls
  refine wpAny_Call_Name_kw (ld_glob I hg hm ?_ hdb)
  refine PySem.W.callWith_K (h₀ := X.base) I.ok.mod.kin T.kC (thn (ha.run pos pins s σ H _ I h) fun us s1 ⟨vs, H1, I1, r1, rr⟩ => ⟨I1.kIn, ?_⟩) he hpl
  obtain ⟨hz, q1⟩ := hR _ _ _ rr
  show wpAny _ _ (call (.ref C) us) _ _ _
  obtain ⟨hp, g, dr, tk, os⟩ := s1
  have hsz : hp.objs.size ≤ hp.objs.size + 1 := Nat.le_succ _
  have hn : H1 (hp.objs.size + 1) = none := I1.hok.fresh hsz
  have hq := q1 (hp.objs.size + 1) hn
  have kk : ∀ b o, hp.get? b = some o → ((hp.push (PySem.W.kdv_tup us)).push (PySem.HandSPX.excO C hp.objs.size)).get? b = some o := fun b o e => Heap.get?_push_of_some _ (Heap.get?_push_of_some _ e)
  have hget : ((hp.push (PySem.W.kdv_tup us)).push (PySem.HandSPX.excO C hp.objs.size)).get? (hp.objs.size + 1) = some (PySem.HandSPX.excO C hp.objs.size) := by heap_get
  have I2 : Inv X pins σ (upd H1 (hp.objs.size + 1) (exo (hp.objs.size + 1) C none)) ⟨(hp.push (PySem.W.kdv_tup us)).push (PySem.HandSPX.excO C hp.objs.size), g, dr, tk, os⟩ :=
    I1.laid (t' := tk) (a := hp.objs.size + 1) (o := exo (hp.objs.size + 1) C none) (h' := (hp.push (PySem.W.kdv_tup us)).push (PySem.HandSPX.excO C hp.objs.size)) kk hsz (exo_ok hget)
  have r2 : Vals (V.ref (hp.objs.size + 1) :: vs) (Value.ref (hp.objs.size + 1) :: us) := .cons rfl r1
  have hl : (Value.ref (hp.objs.size + 1) :: us ++ []).length = ps.length := by
    have e := r2.length
    rw [F1.len _ _ _ _ hq] at e
    rw [List.append_nil]
    exact e.symm
  have hus : us.length ≤ sizeLine := by
    rw [← Paired.length r1, sizeLine_eq]
    omega
  have b2 := hb _ (Value.ref (hp.objs.size + 1) :: us) I2.kIn hl
  rw [List.append_nil] at b2
  refine wpAny_call (PySem.HandSPX.call_own F.excBase_ValueError (fun Y => PySem.HandSPX.refsVE_contains Y bm hbm) (I1.kIn _ _ hC) (PySem.W.looks_findIn I1.kIn iC) (fun self => PySem.W.bind_fn I1.kIn self tI) hus
    (codeAny_mono (F1.run _ X.stack _ _ ⟨Value.ref (hp.objs.size + 1) :: us, []⟩ (Value.ref (hp.objs.size + 1) :: us) _ _ (fun _ _ _ => False) (hr.make C us []) (I2.env0.make C us []) b2 r2 hq) fun r s' hq' => ?_))
  cases r with
  | error er => exact hx pins σ _ _ er s' I2 hq'
  | ok fl =>
    cases fl with
    | ret u =>
      obtain ⟨v, H2, J, rv, ev, q2⟩ := I2.after hq'
      subst ev
      exact ⟨rv, .ref (hp.objs.size + 1), H2, J, rfl, q2⟩
    | next => exact False.elim hq'
    | brk => exact False.elim hq'
    | cont => exact False.elim hq'
/-- e.f of such a value -/
def tXv (K : PySem.W.Frag) (f : Str) (te : TE) : TE := fun σ H Q => te σ H fun x H1 => ∃ (a C : Addr) (fs : List (Str × V)) (v : V), x = .ref a ∧ XfC K C ∧ PySem.W.findIn K (.ref C) f = some none ∧ ExAt H1 a C fs ∧ fs.lookup f = some v ∧ Q v H1
theorem inst_exo {P : Program} {w : World} {H : Hp} {h : Heap} {a C dx : Addr} {fs : List (Str × V)} (hok : HOk P w H h) (ha : H a = some (exo a C (some dx))) (hd : H dx = some (exd dx fs)) :
    ∃ (oe od : Obj) (mA : Str → Option Value), PySem.W.InstAt h a oe C (some od) ∧ (∀ name, PySem.W.lookIn name od = some (mA name)) ∧ ∀ f, RelO (fs.lookup f) (mA f) := by
  obtain ⟨t1, he⟩ := exo_at hok ha
  obtain ⟨mA, hns, hr⟩ := exd_at hok hd
  obtain ⟨od, ho, hl⟩ := lookIn_ns hns
  exact ⟨_, od, mA, ⟨he, rfl, rfl, ho⟩, hl, hr⟩
theorem pe_xv {e : Expr} {te : TE} {pos : Pos} {n : Str} (he : PE X e te) (hb : attributeBase e n X.env (eval e X.env) = eval e X.env := by rfl) : PE X (.Attribute e n pos) (tXv X.K n te) := by
  refine ⟨fun pins s σ H Q I h => ?_⟩
  refine attr_of hb (thn (he.run pins s σ H _ I h) fun u s1 hh => ?_)
  obtain ⟨x, H1, I1, rx, a, C, fs, v, ex, T, hno, ⟨dx, ha, hd⟩, l, q⟩ := hh
  subst ex
  obtain rfl : u = Value.ref a := rx
  obtain ⟨oe, od, mA, J, hl, hr⟩ := inst_exo I1.hok ha hd
  obtain ⟨u, hu, ru⟩ := RelO.some_of (v := v) (o := mA n) (by rw [← l]; exact hr n)
  exact HandSPX.exc_get I1.kIn J T.ga T.gg T.exC (PySem.W.findObj_own T.hdC hno rfl (by rw [hl, hu])) (handed_of ru) ⟨v, H1, I1.tok _, ru, q⟩
theorem pe_xvK {K' : PySem.W.Frag} {e : Expr} {te : TE} {pos : Pos} {n : Str} (hK : X.K = K') (he : PE X e te) (hb : attributeBase e n X.env (eval e X.env) = eval e X.env := by rfl) : PE X (.Attribute e n pos) (tXv K' n te) := hK ▸ pe_xv he hb
/-- isinstance(e, c) of such a value -/
def rIsV (K : PySem.W.Frag) : List V → Hp → VK → Prop := fun xs H Q => ∃ (a C : Addr) (fs : List (Str × V)) (c : V) (cv : Value) (b : Bool), xs = [.ref a, c] ∧ XfC K C ∧ IsC K C ∧ ExAt H a C fs ∧ (∀ u, RelV c u → u = cv) ∧ PySem.W.kitOne K (.ref C) cv = some b ∧ Q (.bl b) H
theorem call_isV : CallR X (.builtin "isinstance") (rIsV X.K) := by
  intro pins s σ H xs us Q I r h
  obtain ⟨a, C, fs, c, cv, b, rfl, T, S, ⟨dx, ha, hd⟩, hcv, e, q⟩ := h
  cases r with
  | cons rx rr =>
    cases rr with
    | cons rt rr =>
      cases rr
      cases rx
      have ec := hcv _ rt
      subst ec
      obtain ⟨oe, od, mA, J, hl, hr⟩ := inst_exo I.hok ha hd
      exact PySem.W.kia_one (PySem.W.kitx_exc S.cl T.ga T.gg T.exC S.ha S.hn S.ht S.hm) I.kIn J e (fun z => nomatch z) fun tk => ⟨.bl b, H, I.kept (t' := tk) fun _ _ z => z, rfl, q⟩
end
end L2
namespace K
open PySem PySem.Spec PyProof.Rows L2
def askStr : Hp → V → Prop := fun _ v => ∃ y : Str, v = .str y ∧ y.length ≤ 1000
def spInS (K : PySem.W.Frag) (f g wd : Str) : Sp := fun vs H Q _ => ∃ (a C : Addr) (i : Int) (y : Str), vs = [.ref a, .int i, .str y] ∧ i.natAbs.log2 < 1920 ∧ y.length ≤ 1000 ∧ OexC K C ∧ PySem.W.findIn K (.ref C) "word" = some none ∧ PySem.W.findIn K (.ref C) f = some none ∧ PySem.W.findIn K (.ref C) g = some none ∧ H a = some (exo a C none) ∧
  ∀ (dx : Addr) (H' : Hp), H dx = none → dx ≠ a → (∀ b o, H b = some o → b ≠ a → H' b = some o) → H' a = some (exo a C (some dx)) → H' dx = some (exd dx [(g, .str y), (f, .int i), ("word", .str wd)]) → Q .non H'
theorem free_upd {H : Hp} {a b : Addr} {o : HO} (h : (upd H a o) b = none) : H b = none := by
  by_cases e : b = a
  · subst e
    rw [upd_same] at h
    cases h
  · rwa [upd_ne e] at h
section
variable {X : Cx} {x : Str} {p pos : Pos} {C fI : Addr} {k : Nat} {fd : FuncData}
/-- C(e), one field -/
def rNew1 (C : Addr) (f wd : Str) (ask : Hp → V → Prop) (got : Hp → Hp → V → V → Prop) : List V → Hp → VK → Prop := fun vs H Q => ∃ v, vs = [v] ∧ ask H v ∧ ∀ (a : Addr) (v' : V) (H' : Hp), H a = none → Same H H' → ExAt H' a C [(f, v'), ("word", .str wd)] → got H H' v v' → Q (.ref a) H'
structure Mono (ask : Hp → V → Prop) (got : Hp → Hp → V → V → Prop) : Prop where
  a : ∀ H H' v, Same H H' → ask H v → ask H' v
  g : ∀ H H0 H' v v', (∀ b, H0 b = none → H b = none) → got H0 H' v v' → got H H' v v'
theorem monoI : Mono askInt gotSame := ⟨fun _ _ _ _ h => h, fun _ _ _ _ _ _ h => h⟩
theorem monoS : Mono askStr gotSame := ⟨fun _ _ _ _ h => h, fun _ _ _ _ _ _ h => h⟩
theorem monoL {K : PySem.W.Frag} : Mono (askLot K) gotLot := ⟨fun _ _ _ s ⟨l, ns, e, h, r⟩ => ⟨l, ns, e, s _ _ h, r⟩, fun _ _ _ _ _ hb ⟨l, l', xs, e1, e2, h1, h2, ne, h3⟩ => ⟨l, l', xs, e1, e2, h1, h2, ne, hb _ h3⟩⟩
theorem pe_new1 {f wd : Str} {e : Expr} {ta : TA} {ask : Hp → V → Prop} {got : Hp → Hp → V → V → Prop} (c : ExcC X.prog X.w X.K X.mg X.base k x C fI fd ["self", f] (spIn1 X.K f wd ask got)) (M : Mono ask got) (fl : PySem.W.findIn X.K (.ref C) f = some none) (hr : Room (k + 1) X.A) (hg : Gl X x) (ha : PA X [e] ta)
    (hdb : (x == ("__debug__" : Str)) = false := by decide) (he : starEach [e] X.env = (false, eval e X.env) :: starEach [] X.env := by rfl) (hpl : (backTo pos (starEach [] X.env)).any (·.1) = false := by rfl) :
    PE X (.Call (.Name x p) [e] [] pos) (fun σ H Q => ta σ H fun vs H1 => rNew1 C f wd ask got vs H1 Q) :=
  pe_valG (R := rNew1 C f wd ask got) c.t.oex c.t.iC c.t.tI c.ok hr c.b pass0 hg c.t.g ha (fun vs H1 Q ⟨v, e1, hask, q⟩ => by
    subst e1
    exact ⟨by simp, fun a na => ⟨a, C, v, rfl, M.a _ _ _ (same_upd na) hask, c.t.oex, c.t.word, fl, upd_same, fun dx v' H' ndx ne hk ha hd hgot => ⟨rfl, q a v' H' na (fun b o e => hk b o (by rw [upd_ne (ne_of_none e na)]; exact e) (ne_of_none e na)) ⟨dx, ha, hd⟩ (M.g _ _ _ _ _ (fun b => free_upd) hgot)⟩⟩⟩) hdb he hpl
/-- C(i, j), C(i, y) -/
def rNew2 (C : Addr) (f g wd : Str) : List V → Hp → VK → Prop := fun vs H Q => ∃ i j : Int, vs = [.int i, .int j] ∧ i.natAbs.log2 < 1920 ∧ j.natAbs.log2 < 1920 ∧ ∀ (a : Addr) (H' : Hp), H a = none → Same H H' → ExAt H' a C [(g, .int j), (f, .int i), ("word", .str wd)] → Q (.ref a) H'
def rNewS (C : Addr) (f g wd : Str) : List V → Hp → VK → Prop := fun vs H Q => ∃ (i : Int) (y : Str), vs = [.int i, .str y] ∧ i.natAbs.log2 < 1920 ∧ y.length ≤ 1000 ∧ ∀ (a : Addr) (H' : Hp), H a = none → Same H H' → ExAt H' a C [(g, .str y), (f, .int i), ("word", .str wd)] → Q (.ref a) H'
theorem pe_new2 {f g wd : Str} {e e2 : Expr} {ta : TA} (c : ExcC X.prog X.w X.K X.mg X.base k x C fI fd ["self", f, g] (spIn2 X.K f g wd)) (fl : PySem.W.findIn X.K (.ref C) f = some none) (gl : PySem.W.findIn X.K (.ref C) g = some none) (hr : Room (k + 1) X.A) (hg : Gl X x) (ha : PA X [e, e2] ta)
    (hdb : (x == ("__debug__" : Str)) = false := by decide) (he : starEach [e, e2] X.env = (false, eval e X.env) :: starEach [e2] X.env := by rfl) (hpl : (backTo pos (starEach [e2] X.env)).any (·.1) = false := by rfl) :
    PE X (.Call (.Name x p) [e, e2] [] pos) (fun σ H Q => ta σ H fun vs H1 => rNew2 C f g wd vs H1 Q) :=
  pe_valG (R := rNew2 C f g wd) c.t.oex c.t.iC c.t.tI c.ok hr c.b pass0 hg c.t.g ha (fun vs H1 Q ⟨i, j, e1, hi, hj, q⟩ => by
    subst e1
    exact ⟨by simp, fun a na => ⟨a, C, i, j, rfl, hi, hj, c.t.oex, c.t.word, fl, gl, upd_same, fun dx H' ndx ne hk ha hd => ⟨rfl, q a H' na (fun b o e => hk b o (by rw [upd_ne (ne_of_none e na)]; exact e) (ne_of_none e na)) ⟨dx, ha, hd⟩⟩⟩⟩) hdb he hpl
theorem pe_newS {f g wd : Str} {e e2 : Expr} {ta : TA} (c : ExcC X.prog X.w X.K X.mg X.base k x C fI fd ["self", f, g] (spInS X.K f g wd)) (fl : PySem.W.findIn X.K (.ref C) f = some none) (gl : PySem.W.findIn X.K (.ref C) g = some none) (hr : Room (k + 1) X.A) (hg : Gl X x) (ha : PA X [e, e2] ta)
    (hdb : (x == ("__debug__" : Str)) = false := by decide) (he : starEach [e, e2] X.env = (false, eval e X.env) :: starEach [e2] X.env := by rfl) (hpl : (backTo pos (starEach [e2] X.env)).any (·.1) = false := by rfl) :
    PE X (.Call (.Name x p) [e, e2] [] pos) (fun σ H Q => ta σ H fun vs H1 => rNewS C f g wd vs H1 Q) :=
  pe_valG (R := rNewS C f g wd) c.t.oex c.t.iC c.t.tI c.ok hr c.b pass0 hg c.t.g ha (fun vs H1 Q ⟨i, y, e1, hi, hj, q⟩ => by
    subst e1
    exact ⟨by simp, fun a na => ⟨a, C, i, y, rfl, hi, hj, c.t.oex, c.t.word, fl, gl, upd_same, fun dx H' ndx ne hk ha hd => ⟨rfl, q a H' na (fun b o e => hk b o (by rw [upd_ne (ne_of_none e na)]; exact e) (ne_of_none e na)) ⟨dx, ha, hd⟩⟩⟩⟩) hdb he hpl
end
/-- what all refusals have as values -/
structure ExcG (K : PySem.W.Frag) (CS C : Addr) : Prop where
  xf : XfC K C
  word : PySem.W.findIn K (.ref C) "word" = some none
  is : IsC K C
  k1 : PySem.W.kitOne K (.ref C) (.ref CS) = some true
  k2 : PySem.W.kitOne K (.ref C) (.type "ValueError") = some true
end K

/-! raise C(), a chain of three, methods that raise, sorted(dict) -/
namespace L2
open PySem PySem.Spec PyProof.Rows
section
variable {X : Cx}
theorem pmk_oex0 {CX : CXT} {x : Str} {p pos : Pos} {C fI : Addr} {k : Nat} {fd : FuncData} {ps : List Str} {sp : Sp} (T : OexC X.K C) (iC : PySem.W.findIn X.K (.ref C) "__init__" = some (some (.ref fI))) (tI : PySem.W.typeIn X.K (.ref fI) = some (.type "function"))
    (F1 : FnOk X.prog X.w X.K X.mg X.base CX k fI fd ps sp) (hr : Room (k + 1) X.A) (hb : Binds X.K fd ps []) (hx : Passes CX X (fun _ _ _ => False)) (hg : Gl X x) (hm : X.mg x = some (.ref C))
    (hdb : (x == ("__debug__" : Str)) = false := by decide) :
    PMk X (.Call (.Name x p) [] [] pos) (tMkO C sp [] tNil) := by
  intro pins s σ H1 Q I1 h
  obtain ⟨nm, q, N, bs, bm, sn, sub, ab, col, dd, k0, k1, k2, k3, k5, hC, hbm⟩ := T.cls
  refine wpAny_Call_Name_kw (ld_glob I1 hg hm ?_ hdb)
  refine PySem.W.callWith_K0 I1.kIn T.kC ?_
  obtain ⟨hz, q1⟩ := h
  show wpAny _ _ (call (.ref C) []) _ _ _
  obtain ⟨hp, g, dr, tk, os⟩ := s
  have hsz : hp.objs.size ≤ hp.objs.size + 1 := Nat.le_succ _
  have hn : H1 (hp.objs.size + 1) = none := I1.hok.fresh hsz
  have hq := q1 (hp.objs.size + 1) hn
  have kk : ∀ b o, hp.get? b = some o → ((hp.push (PySem.W.kdv_tup [])).push (PySem.HandSPX.excO C hp.objs.size)).get? b = some o := fun b o e => Heap.get?_push_of_some _ (Heap.get?_push_of_some _ e)
  have hget : ((hp.push (PySem.W.kdv_tup [])).push (PySem.HandSPX.excO C hp.objs.size)).get? (hp.objs.size + 1) = some (PySem.HandSPX.excO C hp.objs.size) := by heap_get
  have I2 : Inv X pins σ (upd H1 (hp.objs.size + 1) (exo (hp.objs.size + 1) C none)) ⟨(hp.push (PySem.W.kdv_tup [])).push (PySem.HandSPX.excO C hp.objs.size), g, dr, tk, os⟩ :=
    I1.laid (t' := tk) (a := hp.objs.size + 1) (o := exo (hp.objs.size + 1) C none) (h' := (hp.push (PySem.W.kdv_tup [])).push (PySem.HandSPX.excO C hp.objs.size)) kk hsz (exo_ok hget)
  have r2 : Vals [V.ref (hp.objs.size + 1)] [Value.ref (hp.objs.size + 1)] := .cons rfl .nil
  have hl : [Value.ref (hp.objs.size + 1)].length = ps.length := by
    have e := F1.len _ _ _ _ hq
    exact e
  have b2 := hb _ [Value.ref (hp.objs.size + 1)] I2.kIn (by rw [List.append_nil]; exact hl)
  rw [List.append_nil] at b2
  refine wpAny_call (PySem.HandSPX.call_own F.excBase_ValueError (fun Y => PySem.HandSPX.refsVE_contains Y bm hbm) (I1.kIn _ _ hC) (PySem.W.looks_findIn I1.kIn iC) (fun self => PySem.W.bind_fn I1.kIn self tI) (rest := []) (Nat.zero_le _)
    (codeAny_mono (F1.run _ X.stack _ _ ⟨[Value.ref (hp.objs.size + 1)], []⟩ [Value.ref (hp.objs.size + 1)] _ _ (fun _ _ _ => False) (hr.make C [] []) (I2.env0.make C [] []) b2 r2 hq) fun r s' hq' => ?_))
  cases r with
  | error er => exact hx pins σ _ _ er s' I2 hq'
  | ok fl =>
    cases fl with
    | ret u =>
      obtain ⟨v, H2, os2, bare2, un2, hok2, rv, ev, d, fs, ea, ed, hd1, q2⟩ := hq'
      subst ev
      obtain ⟨h2, g2, d2, t2, os'⟩ := s'
      exact ⟨rv, mk_end (raises_own T.exC T.tyC) I1 hsz kk un2 hok2 os2 bare2 ea ed hd1 q2⟩
    | next => exact False.elim hq'
    | brk => exact False.elim hq'
    | cont => exact False.elim hq'
theorem PS.nox {st : Stmt} {t : TS} (h : PS X.nox st t) : PS X st t := ⟨fun pins s σ H D I hw =>
  wpAny_mono (h.run pins s σ H D (I.wish _) hw) (fun _ _ q => q.unwish) fun _ _ z => False.elim z⟩
/-- a op b op' c op'' d -/
def tChain3 (r r' r'' : R2) (ta tb tc td : TE) : TE := fun σ H Q => ta σ H fun x H1 => tb σ H1 fun y H2 => r x y H2 fun z H3 => ∃ k, z = .bl k ∧
  (if k = true then tc σ H3 fun w' H4 => r' y w' H4 fun z2 H5 => ∃ k2, z2 = .bl k2 ∧ (if k2 = true then td σ H5 fun w2 H6 => r'' w' w2 H6 Q else Q (.bl false) H5) else Q (.bl false) H3)
theorem pe_chain3 {a b c d : Expr} {pos : Pos} {ta tb tc td : TE} {op op' op'' : CmpOp} {r r' r'' : R2} (ho : OpR X (compareOp op) r) (ho' : OpR X (compareOp op') r') (ho'' : OpR X (compareOp op'') r'') (ha : PE X a ta) (hb : PE X b tb) (hc : PE X c tc) (hd : PE X d td)
    (hm : lastMarks [op, op', op''] [b, c, d] = false := by with_unfolding_all rfl) : PE X (.Compare a [op, op', op''] [b, c, d] pos) (tChain3 r r' r'' ta tb tc td) := by
  refine ⟨fun pins s σ H Q I h => ?_⟩
  refine Compare_chain (thn (ha.run pins s σ H _ I h) fun v s1 ⟨x, H1, I1, r1, q1⟩ => chain_link (thn (hb.run pins s1 σ H1 _ I1 q1) fun u s2 ⟨y, H2, I2, r2, q2⟩ =>
    thn (ho pins s2 σ H2 x y v u _ I2 r1 r2 q2) fun dd s3 ⟨z, H3, I3, r3, k, e, q3⟩ => ?_)) hm
  subst e
  cases r3
  refine wpAny_truthy_bool ?_
  cases k with
  | false => exact ite_ff ⟨.bl false, H3, I3, rfl, q3⟩
  | true =>
    refine ite_tt (chain_link (thn (hc.run pins s3 σ H3 _ I3 q3) fun w' s4 ⟨z', H4, I4, r4, q4⟩ => thn (ho' pins s4 σ H4 y z' u w' _ I4 r2 r4 q4) fun d' s5 ⟨z2, H5, I5, r5, k2, e2, q5⟩ => ?_))
    subst e2
    cases r5
    refine wpAny_truthy_bool ?_
    cases k2 with
    | false => exact ite_ff ⟨.bl false, H5, I5, rfl, q5⟩
    | true => exact ite_tt (chain_last (thn (hd.run pins s5 σ H5 _ I5 q5) fun w2 s6 ⟨z3, H6, I6, r6, q6⟩ => ho'' pins s6 σ H6 z' z3 w' w2 Q I6 r4 r6 q6))
/-- o.m(e, ..), o.m() that may raise, in a try -/
def tMethX (C : Addr) (m : Str) (sp : Sp) (E : St → XK) (ta : TE) (t : TA) : TE := fun σ H Q => ta σ H fun x H1 => ∃ a dx fs, x = .ref a ∧ H1 a = some (.ins C dx fs) ∧ fs.lookup m = none ∧ t σ H1 fun vs H2 => sp (x :: vs) H2 Q (E σ)
variable {CX : CXT} {k : Nat} {f C : Addr} {fd : FuncData} {ps : List Str} {sp : Sp} {E : St → XK} {m : Str} {pos apos : Pos} {e o : Expr} {es : List Expr} {ta : TE} {t : TA}
theorem pe_methX {pl : Sem Bool} (he : PE X o ta) (c : Cls X.K C) (hm : Meth X.K C m f) (F : FnOk X.prog X.w X.K X.mg X.base CX k f fd ps sp) (hr : Room k X.A) (hb : Binds X.K fd ps []) (hx : ∀ σ, PassesAt CX X σ (E σ)) (ha : PA X (e :: es) t)
    (hst : starEach (e :: es) X.env = (false, eval e X.env) :: starEach es X.env := by rfl) (hpl : (backTo pos (starEach es X.env)).any (·.1) = false := by rfl)
    (ht : eval (.Call (.Attribute o m apos) (e :: es) [] pos) X.env = (do
      let ov ← eval o X.env
      standAt apos.atName
      let (f, first) ← holding [ov] (getMethod ov m pl)
      callWith pos f first (backTo pos (starEach (e :: es) X.env)) (backToKw pos (keywordEach [] X.env))) := by rfl) :
    PE X (.Call (.Attribute o m apos) (e :: es) [] pos) (tMethX C m sp E ta t) := by
  refine ⟨fun pins s σ H Q I h => ?_⟩
  refine PySem.W.methodCall_KW (pl := pl) (thn (he.run pins s σ H _ I h) fun u s1 ⟨x, H1, I1, rx, a, dx, fs, ex, ea, l, q⟩ => ?_) ht
  subst ex
  obtain rfl : u = Value.ref a := rx
  refine getmeth_ok I1 ea c hm l ?_
  refine PySem.W.callWith_K (first := [.ref a]) (h₀ := X.base) I.ok.mod.kin hm.kp (thn (ha.run pos pins s1 σ H1 _ I1 q) fun us s2 ⟨vs, H2, I2, r, q2⟩ => ⟨I2.kIn, ?_⟩) hst hpl
  exact run_fnS (us := .ref a :: us) (vs := .ref a :: vs) F hr hb (hx σ) I2 (.cons rfl r) q2
theorem pe_methX0 {pl : Sem Bool} (he : PE X o ta) (c : Cls X.K C) (hm : Meth X.K C m f) (F : FnOk X.prog X.w X.K X.mg X.base CX k f fd ps sp) (hr : Room k X.A) (hb : Binds X.K fd ps []) (hx : ∀ σ, PassesAt CX X σ (E σ))
    (ht : eval (.Call (.Attribute o m apos) [] [] pos) X.env = (do
      let ov ← eval o X.env
      standAt apos.atName
      let (f, first) ← holding [ov] (getMethod ov m pl)
      callWith pos f first (backTo pos (starEach [] X.env)) (backToKw pos (keywordEach [] X.env))) := by rfl) :
    PE X (.Call (.Attribute o m apos) [] [] pos) (tMethX C m sp E ta tNil) := by
  refine ⟨fun pins s σ H Q I h => ?_⟩
  refine PySem.W.methodCall_KW (pl := pl) (thn (he.run pins s σ H _ I h) fun u s1 ⟨x, H1, I1, rx, a, dx, fs, ex, ea, l, q⟩ => ?_) ht
  subst ex
  obtain rfl : u = Value.ref a := rx
  refine getmeth_ok I1 ea c hm l ?_
  exact PySem.W.callWith_K0 (first := [.ref a]) I1.kIn hm.kp (run_fnS (us := [.ref a]) (vs := [.ref a]) F hr hb (hx σ) I1 (.cons rfl .nil) q)
/-- sorted(d), d a dict with int keys, of any length -/
def rSortedDI : List V → Hp → VK → Prop := fun xs H Q => ∃ (a : Addr) (kvs : List (Key × V)) (ks : List Int), xs = [.ref a] ∧ Rd H a (.dK kvs) ∧ kvs.map (·.1) = ks.map Sum.inl ∧ ks.length ≤ sizeLine ∧
    ∀ (ys : List Int) (p : Addr), ys.Perm ks → ys.Pairwise (· ≤ ·) → H p = none → Q (.ref p) (upd H p (.lst (ys.map V.int)))
theorem call_sortedDA (hcalm : X.calm = true) : CallR X (.builtin "sorted") rSortedDI := by
  intro pins s σ H xs us Q I r q
  obtain ⟨a, kvs, ks, ex, hd, hks, h64, q⟩ := q
  subst ex
  obtain ⟨u, eu, rx⟩ := vals1 r
  subst eu
  cases rx
  obtain ⟨z, lo, vs, rel, dd⟩ := dk_rd I.hok hd
  obtain ⟨ep, hat⟩ := dd.dictAt
  have hkeys : vs.map (·.1) = ks.map Sum.inl := rel.keys.symm.trans hks
  have hl : vs.length = ks.length := by
    have e := congrArg List.length hkeys
    rw [List.length_map, List.length_map] at e
    exact e
  have h16 : vs.length ≤ sizeLine := by rw [hl]; exact h64
  refine Calls.call_function_entry PyProof.Rows.kind_sorted PyProof.Rows.plain_sorted PyProof.Rows.entry_sorted (PyProof.Rows.args_sorted1 _) ?_
  unfold Builtin.«sorted»
  refine wpAny_bind (m := checkCount "sorted" 1 1 _) (wpAny_pure ?_)
  refine wpAny_bind (PySem.W.kdu_collect (A := X.A.in1) (PySem.W.kdl_dict (knd := mixKind X.prog X.w) (kvs := vs) (ep := ep) lo) (I.ok.hd hcalm) hat h16 fun h' tk acc hk hacc => ?_)
  have hal : acc.toList.length = ks.length := by rw [Array.length_toList, hacc.1, hl]
  have hS : IntsAre acc.toList ks := ints_each hal fun j v e => by
    obtain ⟨k, x, e1, e2⟩ := hacc.2 j v (by rw [← Array.getElem?_toList]; exact e)
    have e3 : (vs.map (·.1))[j]? = some k := by rw [List.getElem?_map, e1]; rfl
    rw [hkeys, List.getElem?_map] at e3
    cases e4 : ks[j]? with
    | none => rw [e4] at e3; cases e3
    | some y =>
      rw [e4] at e3
      have e5 : Sum.inl y = k := Option.some.inj e3
      subst e5
      rcases keyIs_shape (show keyIs (Sum.inl y) v = true from e2) with ⟨i, t, ek, ev⟩ | ⟨z, t, ek, ev⟩
      · cases ek
        exact ⟨y, t, rfl, ev⟩
      · cases ek
  have I1 : Inv X pins σ H { s with heap := h', toks := tk } := I.kept hk
  refine wpAny_bind (wpAny_newList ?_ (by rw [hal]; exact h64))
  have hoL : (h'.push (seqObj "list" acc.toList.toArray 0)).get? h'.objs.size = some (seqObj "list" acc.toList.toArray 0) := Heap.get?_push_size _ rfl
  show wpAny _ _ _ _ _ { s with heap := h'.push (seqObj "list" acc.toList.toArray 0), toks := tk }
  refine wpAny_bind (wpAny_holding (wpAny_call_entry PyProof.Rows.slot_list_sort ⟨_, hoL, rfl⟩ PyProof.Rows.entry_list_sort
    (SrtO.list_sort_ord (s := { s with heap := h'.push (seqObj "list" acc.toList.toArray 0), toks := tk }) SrtO.swo_int hoL (by rw [hal]; exact h64) (fun h2 => SrtO.ints_sortable hS h2) fun out g1 g2 => ⟨_, rfl, ?_⟩) (PyProof.Rows.args_list_sort _)))
  obtain ⟨k1, k2, k3⟩ := SrtO.ints_out hS g1 g2
  obtain ⟨e', he'⟩ := PyProof.Rows.sortedHeap_at (vs := acc.toList) (out := out.toArray) hoL
  have hlen : ((out.map SrtO.iv).map V.int).length ≤ sizeLine := by
    rw [List.length_map, k2.length_eq]
    exact h64
  refine wpAny_pure ⟨_, rfl, .ref h'.objs.size, upd H h'.objs.size (.lst ((out.map SrtO.iv).map V.int)), I1.laid (t' := tk) (fun b u e => ?_) (Nat.le_refl _)
    (show ObjOk X.prog X.w _ _ _ (.lst ((out.map SrtO.iv).map V.int)) from ⟨hlen, out, e', vals_of_ints k1, he'⟩), rfl, q _ _ k2 k3 (I1.hok.fresh (Nat.le_refl _))⟩
  have hb : b < h'.objs.size := Heap.lt_size e
  rw [PyProof.Rows.sortedHeap_old (Nat.ne_of_lt hb) (by rw [size_push']; exact Nat.lt_succ_of_lt hb)]
  exact Heap.get?_push_of_some _ e
end
end L2

/-! the numbers of one house: what stands, what is promised -/
namespace K
open PySem PySem.Spec PyProof.Rows L2
def heldK (us : List Int) : List (Key × V) := us.map fun i => (Sum.inl i, V.bl true)
theorem held_keys (us : List Int) : (heldK us).map (·.1) = us.map Sum.inl := by
  unfold heldK
  rw [List.map_map]
  rfl
theorem held_val (i : Int) : ∀ us : List Int, valV (heldK us) (Sum.inl i) = if i ∈ us then some (.bl true) else none
  | [] => rfl
  | j :: us => by
    by_cases e : j = i
    · subst e
      rw [if_pos List.mem_cons_self]
      exact valV_pos rfl
    · have e2 : ¬ (Sum.inl j : Key) = Sum.inl i := fun z => e (Sum.inl.inj z)
      rw [show heldK (j :: us) = (Sum.inl j, V.bl true) :: heldK us from rfl, valV_neg e2, held_val i us]
      by_cases h : i ∈ us
      · rw [if_pos h, if_pos (List.mem_cons_of_mem _ h)]
      · rw [if_neg h, if_neg (fun z => by rcases List.mem_cons.mp z with q | q; exact e q.symm; exact h q)]
theorem held_in {i : Int} {us : List Int} (h : i ∈ us) : valV (heldK us) (Sum.inl i) = some (.bl true) := by rw [held_val, if_pos h]
theorem held_no {i : Int} {us : List Int} (h : ¬ i ∈ us) : valV (heldK us) (Sum.inl i) = none := by rw [held_val, if_neg h]
theorem held_put {i : Int} {us : List Int} (h : ¬ i ∈ us) : putK (heldK us) (Sum.inl i) (.bl true) = heldK (us ++ [i]) := by
  rw [putK_new _ (held_no h)]
  unfold heldK
  rw [List.map_append]
  rfl
theorem held_drop (i : Int) : ∀ us : List Int, us.Nodup → dropK (heldK us) (Sum.inl i) = heldK (us.erase i)
  | [], _ => rfl
  | j :: us, nd => by
    obtain ⟨n1, n2⟩ := List.nodup_cons.mp nd
    by_cases e : j = i
    · subst e
      rw [List.erase_cons_head, show heldK (j :: us) = (Sum.inl j, V.bl true) :: heldK us from rfl, dropK_pos rfl, dropK_no]
      rw [held_keys]
      intro z
      obtain ⟨x, hx, ex⟩ := List.mem_map.mp z
      cases ex
      exact n1 hx
    · have e2 : ¬ (Sum.inl j : Key) = Sum.inl i := fun z => e (Sum.inl.inj z)
      have e3 : (j == i) = false := by simpa using e
      rw [List.erase_cons_tail (by rw [e3]; exact Bool.false_ne_true), show heldK (j :: us) = (Sum.inl j, V.bl true) :: heldK us from rfl, dropK_neg e2, held_drop i us n2]
      rfl
/-- the numbers from x on, k of them, that are not among us -/
def spare (us : List Int) : Nat → Int → List Int
  | 0, _ => []
  | k + 1, x => if x ∈ us then spare us k (x + 1) else x :: spare us k (x + 1)
theorem spare_s (us : List Int) (k : Nat) (x : Int) : spare us (k + 1) x = if x ∈ us then spare us k (x + 1) else x :: spare us k (x + 1) := rfl
theorem spare_add (us : List Int) : ∀ (i j : Nat) (x : Int), spare us (i + j) x = spare us i x ++ spare us j (x + i)
  | 0, j, x => by simp [spare]
  | i + 1, j, x => by
    have e : x + 1 + (i : Int) = x + ((i + 1 : Nat) : Int) := by omega
    rw [show i + 1 + j = (i + j) + 1 by omega, spare_s, spare_s]
    by_cases h : x ∈ us
    · rw [if_pos h, if_pos h, spare_add us i j (x + 1), e]
    · rw [if_neg h, if_neg h, spare_add us i j (x + 1), e, List.cons_append]
theorem spare_succ (us : List Int) (i : Nat) (x : Int) : spare us (i + 1) x = spare us i x ++ (if x + i ∈ us then [] else [x + i]) := by
  rw [spare_add us i 1 x]
  rfl
theorem spare_len (us : List Int) : ∀ (i : Nat) (x : Int), (spare us i x).length ≤ i
  | 0, x => by simp [spare]
  | i + 1, x => by
    unfold spare
    have := spare_len us i (x + 1)
    by_cases h : x ∈ us
    · rw [if_pos h]; omega
    · rw [if_neg h, List.length_cons]; omega
theorem spare_mem (us : List Int) : ∀ (i : Nat) (x y : Int), y ∈ spare us i x → ¬ y ∈ us ∧ x ≤ y ∧ y < x + i
  | 0, x, y, h => by simp [spare] at h
  | i + 1, x, y, h => by
    unfold spare at h
    by_cases c : x ∈ us
    · rw [if_pos c] at h
      have := spare_mem us i (x + 1) y h
      exact ⟨this.1, by omega, by omega⟩
    · rw [if_neg c] at h
      rcases List.mem_cons.mp h with q | q
      · subst q; exact ⟨c, by omega, by omega⟩
      · have := spare_mem us i (x + 1) y q
        exact ⟨this.1, by omega, by omega⟩
/-- how many numbers a range has -/
def wide (lo hi : Int) : Nat := (hi + 1 - lo).toNat
def goodR (lo hi : Int) : Prop := 1 ≤ lo ∧ lo ≤ hi ∧ hi ≤ lo + 63 ∧ hi ≤ 9999
def numF (lo hi : Int) (d : Addr) : List (Str × V) := [("low", .int lo), ("high", .int hi), ("held", .ref d)]
def NumAt (H : Hp) (C x dx d : Addr) (lo hi : Int) (us : List Int) : Prop := H x = some (.ins C dx (numF lo hi d)) ∧ H d = some (.dK (heldK us))
theorem NumAt.same {H H' : Hp} {C x dx d : Addr} {lo hi : Int} {us : List Int} (h : NumAt H C x dx d lo hi us) (s : Same H H') : NumAt H' C x dx d lo hi us := ⟨s _ _ h.1, s _ _ h.2⟩
/-- a bare refusal in the air -/
def BareX (C : Addr) (wd : Str) (H : Hp) (E : XK) : Prop := ∀ (d : Addr) (H' : Hp), H d = none → Same H H' → H' d = some (.xd [("word", .str wd)]) → E (.ref C) (some d) H'
def TakenX (C : Addr) (i : Int) (H : Hp) (E : XK) : Prop := ∀ (d : Addr) (H' : Hp), H d = none → Same H H' → H' d = some (.xd [("number", .int i), ("word", .str "nottaken")]) → E (.ref C) (some d) H'
/-- C(): no field but the word -/
def spIn0 (K : PySem.W.Frag) (wd : Str) : Sp := fun vs H Q _ => ∃ (a C : Addr), vs = [.ref a] ∧ OexC K C ∧ PySem.W.findIn K (.ref C) "word" = some none ∧ H a = some (exo a C none) ∧
  ∀ (dx : Addr) (H' : Hp), H dx = none → dx ≠ a → (∀ b o, H b = some o → b ≠ a → H' b = some o) → H' a = some (exo a C (some dx)) → H' dx = some (exd dx [("word", .str wd)]) → Q .non H'
def spIsRange : Sp := fun vs H Q _ => ∃ lo hi : Int, vs = [.int lo, .int hi] ∧ ∀ b : Bool, (b = true ↔ goodR lo hi) → Q (.bl b) H
def spNumI (C : Addr) : Sp := fun vs H Q _ => ∃ (x dx : Addr) (lo hi : Int), vs = [.ref x, .int lo, .int hi] ∧ H x = some (.ins C dx []) ∧ goodR lo hi ∧
  ∀ (d : Addr) (H' : Hp), H d = none → (∀ b o, H b = some o → b ≠ x → H' b = some o) → NumAt H' C x dx d lo hi [] → Q .non H'
def spNTake (C CN : Addr) : Sp := fun vs H Q E => ∃ (x dx d : Addr) (lo hi : Int) (us : List Int), vs = [.ref x] ∧ NumAt H C x dx d lo hi us ∧ goodR lo hi ∧ us.length ≤ 1000 ∧
  (spare us (wide lo hi) lo = [] → BareX CN "nonumber" H E) ∧ (∀ i r, spare us (wide lo hi) lo = i :: r → Q (.int i) (upd H d (.dK (heldK (us ++ [i])))))
def spNGive (C CT : Addr) : Sp := fun vs H Q E => ∃ (x dx d : Addr) (lo hi i : Int) (us : List Int), vs = [.ref x, .int i] ∧ NumAt H C x dx d lo hi us ∧ us.Nodup ∧ i.natAbs.log2 < 1920 ∧
  (¬ i ∈ us → TakenX CT i H E) ∧ (i ∈ us → Q .non (upd H d (.dK (heldK (us.erase i)))))
def spNTaken (C : Addr) : Sp := fun vs H Q _ => ∃ (x dx d : Addr) (lo hi : Int) (us : List Int), vs = [.ref x] ∧ NumAt H C x dx d lo hi us ∧ us.length ≤ 1000 ∧
  ∀ (ys : List Int) (p : Addr), ys.Perm us → ys.Pairwise (· ≤ ·) → H p = none → Q (.ref p) (upd H p (.lst (ys.map V.int)))
def spNLeft (C : Addr) : Sp := fun vs H Q _ => ∃ (x dx d : Addr) (lo hi : Int) (us : List Int), vs = [.ref x] ∧ NumAt H C x dx d lo hi us ∧ Q (.int (hi - lo + 1 - us.length)) H
def spNHas (C : Addr) : Sp := fun vs H Q _ => ∃ (x dx d : Addr) (lo hi i : Int) (us : List Int), vs = [.ref x, .int i] ∧ NumAt H C x dx d lo hi us ∧ Q (.bl (decide (lo ≤ i ∧ i ≤ hi))) H
/-- what the top has written of the class -/
structure NumT (K : PySem.W.Frag) (mg : Str → Option Value) (C fI : Addr) : Prop where
  g : mg "Numbers" = some (.ref C)
  cl : Cls K C
  made : Mk K C fI
  nl : NoAttr K C "low"
  nh : NoAttr K C "high"
  nd : NoAttr K C "held"
/-- two increasing lists of the same numbers are one -/
theorem sorted_one {xs ys : List Int} (p : xs.Perm ys) (hx : xs.Pairwise (· ≤ ·)) (hy : ys.Pairwise (· ≤ ·)) : xs = ys :=
  p.eq_of_pairwise (fun a b _ _ h1 h2 => Int.le_antisymm h1 h2) hx hy
end K

/-! a statement and the rest, with what holds between them named once -/
namespace L2
open PySem PySem.Spec PyProof.Rows
section
variable {X : Cx} {st : Stmt} {rest : List Stmt} {t u : TS}
def tMid (t u : TS) : TS := fun D σ H => ∃ Pre : St → Hp → Prop, t { D with nx := Pre } σ H ∧ ∀ σ' H', Pre σ' H' → u D σ' H'
theorem pss_mid (h1 : PS X st t) (h2 : PSs X rest u) : PSs X (st :: rest) (tMid t u) := by
  refine ⟨fun pins s σ H D I ⟨Pre, h, hu⟩ => ?_⟩
  refine wpAny_execs_cons (thn (h1.run pins s σ H { D with nx := Pre } I h) fun f s1 q => ?_)
  cases f with
  | next =>
    obtain ⟨σ', H', I', q⟩ := q
    exact h2.run pins s1 σ' H' D I' (hu _ _ q)
  | ret v => exact q
  | brk => exact q
  | cont => exact q
end
end L2
namespace K
open PySem PySem.Spec PyProof.Rows L2
theorem ints_ne_refs {us : List Int} {a : Addr} {r : List V} : HO.lst (us.map V.int) ≠ HO.lst (.ref a :: r) := fun z => by
  cases us with
  | nil => cases z
  | cons n us => injection z with z; injection z with z1 z2; cases z1
theorem new_at {H H' : Hp} {p : Addr} {o : HO} (n : H p = none) (e : upd H p o = H') : Same H H' ∧ H' p = some o := by
  subst e
  exact ⟨same_upd n, upd_same⟩
/-- one of the two ranges of the law -/
structure Side where
  x : Addr
  dx : Addr
  d : Addr
  u : Addr
  t : Addr
  lo : Int
  hi : Int
  us : List Int
structure SideAt (H : Hp) (C : Addr) (S : Side) : Prop where
  num : NumAt H C S.x S.dx S.d S.lo S.hi S.us
  u : H S.u = some (.lst (S.us.map V.int))
  t : H S.t = some (.tup [.int S.lo, .int S.hi])
structure SideOk (S : Side) : Prop where
  good : goodR S.lo S.hi
  nd : S.us.Nodup
  mem : ∀ i ∈ S.us, S.lo ≤ i ∧ i ≤ S.hi
structure Both (H : Hp) (C p q en bo ud : Addr) (S : Nat → Side) (i : Nat) : Prop where
  box : BoxAt H p q
  en : H en = some (.lst [.ref (S 0).t, .ref (S 1).t])
  bo : H bo = some (.lst [.ref (S 0).x, .ref (S 1).x])
  ud : H ud = some (.lst [.ref (S 0).u, .ref (S 1).u])
  side : ∀ k, k < 2 → SideAt H C (S k)
  ok : ∀ k, k < 2 → SideOk (S k)
  len : ∀ k, k < 2 → (S k).us.length ≤ i
  uq : ∀ k, k < 2 → (S k).u ≠ q
  uu : ∀ k j, k < 2 → j < 2 → k ≠ j → (S k).u ≠ (S j).u
  dd : ∀ k j, k < 2 → j < 2 → k ≠ j → (S k).d ≠ (S j).d
theorem SideAt.same {H H' : Hp} {C : Addr} {S : Side} (h : SideAt H C S) (s : Same H H') : SideAt H' C S := ⟨h.num.same s, s _ _ h.u, s _ _ h.t⟩
theorem Both.same {H H' : Hp} {C p q en bo ud : Addr} {S : Nat → Side} {i : Nat} (h : Both H C p q en bo ud S i) (s : Same H H') : Both H' C p q en bo ud S i :=
  ⟨h.box.same s, s _ _ h.en, s _ _ h.bo, s _ _ h.ud, fun k hk => (h.side k hk).same s, h.ok, h.len, h.uq, h.uu, h.dd⟩
/-- the box alone is written -/
theorem Both.but {H H' : Hp} {C p q en bo ud : Addr} {S : Nat → Side} {i : Nat} (h : Both H C p q en bo ud S i) (B : BoxAt H' p q) (b : But p H H') : Both H' C p q en bo ud S i := by
  obtain ⟨ns, i0, t0, s0, hp, hq, _⟩ := h.box
  refine ⟨B, b _ _ h.en (ne_of h.en hp fun z => by cases z), b _ _ h.bo (ne_of h.bo hp fun z => by cases z), b _ _ h.ud (ne_of h.ud hp fun z => by cases z), fun k hk => ?_, h.ok, h.len, h.uq, h.uu, h.dd⟩
  have hs := h.side k hk
  exact ⟨⟨b _ _ hs.num.1 (ne_of hs.num.1 hp fun z => by cases z), b _ _ hs.num.2 (ne_of hs.num.2 hp fun z => by cases z)⟩, b _ _ hs.u (ne_of hs.u hp ints_ne_refs), b _ _ hs.t (ne_of hs.t hp fun z => by cases z)⟩
def putS (S : Nat → Side) (k : Nat) (s : Side) : Nat → Side := fun j => if j = k then s else S j
theorem putS_same {S : Nat → Side} {k : Nat} {s : Side} : putS S k s k = s := if_pos rfl
theorem putS_ne {S : Nat → Side} {k j : Nat} {s : Side} (h : j ≠ k) : putS S k s j = S j := if_neg h
/-- the side k is changed: its list (maybe another one) and its dict -/
theorem Both.put {H H' : Hp} {C p q en bo ud u' : Addr} {S : Nat → Side} {i i' k : Nat} {us' : List Int} (h : Both H C p q en bo ud S i) (hk : k < 2) (hi : i ≤ i')
    (st : ∀ b o, H b = some o → b ≠ ud → b ≠ (S k).u → b ≠ (S k).d → H' b = some o)
    (h1 : H' ud = some (.lst [.ref (putS S k { S k with u := u', us := us' } 0).u, .ref (putS S k { S k with u := u', us := us' } 1).u])) (h2 : H' u' = some (.lst (us'.map V.int))) (h3 : H' (S k).d = some (.dK (heldK us')))
    (ok : SideOk { S k with u := u', us := us' }) (hl : us'.length ≤ i') (n1 : u' ≠ q) (n2 : ∀ j, j < 2 → j ≠ k → u' ≠ (S j).u) : Both H' C p q en bo ud (putS S k { S k with u := u', us := us' }) i' := by
  obtain ⟨ns, i0, t0, s0, hp, hq, _⟩ := id h.box
  have hsk := h.side k hk
  have kt : ∀ j, (putS S k { S k with u := u', us := us' } j).t = (S j).t := fun j => by
    by_cases e : j = k
    · subst e; rw [putS_same]
    · rw [putS_ne e]
  have kx : ∀ j, (putS S k { S k with u := u', us := us' } j).x = (S j).x := fun j => by
    by_cases e : j = k
    · subst e; rw [putS_same]
    · rw [putS_ne e]
  have kd : ∀ j, (putS S k { S k with u := u', us := us' } j).d = (S j).d := fun j => by
    by_cases e : j = k
    · subst e; rw [putS_same]
    · rw [putS_ne e]
  have nud : (S k).u ≠ ud := ne_of hsk.u h.ud ints_ne_refs
  refine ⟨h.box.at (fun o e => st _ o e (ne_of hp h.ud fun z => by cases z) (ne_of hp hsk.u (Ne.symm ints_ne_refs)) (ne_of hp hsk.num.2 fun z => by cases z)) (fun o e => st _ o e (ne_of hq h.ud ints_ne_refs) (Ne.symm (h.uq k hk)) (ne_of hq hsk.num.2 fun z => by cases z)), ?_, ?_, h1, fun j hj => ?_, fun j hj => ?_, fun j hj => ?_, fun j hj => ?_, fun j l hj hl' hjl => ?_, fun j l hj hl' hjl => ?_⟩
  · rw [kt, kt]
    refine st _ _ h.en (fun e => ?_) (ne_of h.en hsk.u (Ne.symm ints_ne_refs)) (ne_of h.en hsk.num.2 fun z => by cases z)
    have h0 := h.en
    rw [e, h.ud] at h0
    injection h0 with h0
    injection h0 with h0
    injection h0 with e1 e2
    injection e1 with e1
    have a1 := (h.side 0 (by omega)).t
    have a2 := (h.side 0 (by omega)).u
    rw [← e1, a2] at a1
    cases a1
  · rw [kx, kx]
    refine st _ _ h.bo (fun e => ?_) (ne_of h.bo hsk.u (Ne.symm ints_ne_refs)) (ne_of h.bo hsk.num.2 fun z => by cases z)
    have h0 := h.bo
    rw [e, h.ud] at h0
    injection h0 with h0
    injection h0 with h0
    injection h0 with e1 e2
    injection e1 with e1
    have a1 := (h.side 0 (by omega)).num.1
    have a2 := (h.side 0 (by omega)).u
    rw [← e1, a2] at a1
    cases a1
  · have hs := h.side j hj
    have f1 : H' (S j).x = some (.ins C (S j).dx (numF (S j).lo (S j).hi (S j).d)) := st _ _ hs.num.1 (ne_of hs.num.1 h.ud fun z => by cases z) (ne_of hs.num.1 hsk.u fun z => by cases z) (ne_of hs.num.1 hsk.num.2 fun z => by cases z)
    have f2 : H' (S j).t = some (.tup [.int (S j).lo, .int (S j).hi]) := st _ _ hs.t (ne_of hs.t h.ud fun z => by cases z) (ne_of hs.t hsk.u fun z => by cases z) (ne_of hs.t hsk.num.2 fun z => by cases z)
    by_cases e : j = k
    · subst e
      rw [putS_same]
      exact ⟨⟨f1, h3⟩, h2, f2⟩
    · rw [putS_ne e]
      exact ⟨⟨f1, st _ _ hs.num.2 (ne_of hs.num.2 h.ud fun z => by cases z) (ne_of hs.num.2 hsk.u fun z => by cases z) (h.dd j k hj hk e)⟩, st _ _ hs.u (ne_of hs.u h.ud ints_ne_refs) (h.uu j k hj hk e) (ne_of hs.u hsk.num.2 fun z => by cases z), f2⟩
  · by_cases e : j = k
    · subst e; rw [putS_same]; exact ok
    · rw [putS_ne e]; exact h.ok j hj
  · by_cases e : j = k
    · subst e; rw [putS_same]; exact hl
    · rw [putS_ne e]; exact Nat.le_trans (h.len j hj) hi
  · by_cases e : j = k
    · subst e; rw [putS_same]; exact n1
    · rw [putS_ne e]; exact h.uq j hj
  · by_cases e : j = k
    · subst e
      rw [putS_same, putS_ne (Ne.symm hjl)]
      exact n2 l hl' (Ne.symm hjl)
    · rw [putS_ne e]
      by_cases e2 : l = k
      · subst e2
        rw [putS_same]
        exact Ne.symm (n2 j hj hjl)
      · rw [putS_ne e2]
        exact h.uu j l hj hl' hjl
  · rw [kd, kd]
    exact h.dd j l hj hl' hjl
theorem two_at {f : Nat → Addr} {k : Nat} (hk : k < 2) : atI [V.ref (f 0), V.ref (f 1)] (k : Int) = some (.ref (f k)) := by
  match k, hk with
  | 0, _ => rfl
  | 1, _ => rfl
theorem putS_set {S : Nat → Side} {k : Nat} {s : Side} (hk : k < 2) : [V.ref (S 0).u, V.ref (S 1).u].set k (.ref s.u) = [.ref (putS S k s 0).u, .ref (putS S k s 1).u] := by
  match k, hk with
  | 0, _ => rfl
  | 1, _ => rfl
theorem inV_ints (x : Int) : ∀ us : List Int, inV (.int x) (us.map V.int) = decide (x ∈ us)
  | [] => rfl
  | y :: us => by
    have ih := inV_ints x us
    unfold inV at ih ⊢
    rw [List.map_cons, List.any_cons, ih]
    by_cases e : y = x
    · subst e
      have : eqV (.int y) (.int y) = true := by simp [eqV]
      rw [this, Bool.true_or, decide_eq_true List.mem_cons_self]
    · have : eqV (.int y) (.int x) = false := by simp [eqV, e]
      rw [this, Bool.false_or]
      by_cases h : x ∈ us
      · rw [decide_eq_true h, decide_eq_true (List.mem_cons_of_mem _ h)]
      · rw [decide_eq_false h, decide_eq_false (fun z => by rcases List.mem_cons.mp z with q | q; exact e q.symm; exact h q)]
theorem flat_intsV (us : List Int) : (us.map V.int).all flatV = true := by
  rw [List.all_eq_true]
  intro x m
  obtain ⟨n, _, e⟩ := List.mem_map.mp m
  subst e
  rfl
theorem erase_at {x : Int} : ∀ {us : List Int}, x ∈ us → ∃ j : Nat, us[j]? = some x ∧ (∀ m : Nat, m < j → us[m]? ≠ some x) ∧ us.eraseIdx j = us.erase x
  | y :: us, h => by
    by_cases e : y = x
    · subst e
      exact ⟨0, rfl, fun m z => absurd z (Nat.not_lt_zero _), by rw [List.erase_cons_head]; rfl⟩
    · have h2 : x ∈ us := by rcases List.mem_cons.mp h with q | q; exact absurd q.symm e; exact q
      obtain ⟨j, j1, j2, j3⟩ := erase_at h2
      refine ⟨j + 1, j1, fun m hm => ?_, ?_⟩
      · cases m with
        | zero => intro z; exact e (Option.some.inj z)
        | succ m => exact j2 m (by omega)
      · have e3 : (y == x) = false := by simpa using e
        rw [List.erase_cons_tail (by rw [e3]; exact Bool.false_ne_true), ← j3]
        rfl
end K

/-! a web as it begins: how it lies in the heap -/
namespace K
open PySem PySem.Spec PyProof.Rows L2
theorem ifT0 {c : Bool} {A B : Prop} (hc : c = true) (h : A) : if c = true then A else B := by rw [if_pos hc]; exact h
theorem ifF0 {c : Bool} {A B : Prop} (hc : c = false) (h : B) : if c = true then A else B := by rw [hc, if_neg Bool.false_ne_true]; exact h
/-- what the top has written of an own class -/
structure ClsT (K : PySem.W.Frag) (mg : Str → Option Value) (x : Str) (C fI : Addr) (fs : List Str) : Prop where
  g : mg x = some (.ref C)
  cl : Cls K C
  made : Mk K C fI
  na : ∀ f ∈ fs, NoAttr K C f
def slipFs : List Str := ["number", "what", "out", "path", "age", "mood", "told"]
def homeFs : List Str := ["name", "numbers", "sight", "wants", "stands", "news", "queue", "freed"]
def webFs : List Str := ["homes", "bonds", "mail", "bores", "ever"]
def slipF (n : Int) (wh out pa : V) (age : Int) (mood : Str) (td : Addr) : List (Str × V) := [("number", .int n), ("what", wh), ("out", out), ("path", pa), ("age", .int age), ("mood", .str mood), ("told", .ref td)]
def homeF (nm : Int) (nu sg wt st nw qu : Addr) : List (Str × V) := [("name", .int nm), ("numbers", .ref nu), ("sight", .ref sg), ("wants", .ref wt), ("stands", .ref st), ("news", .ref nw), ("queue", .ref qu), ("freed", .bl false)]
def webF (hl b ml bo : Addr) (e : Int) : List (Str × V) := [("homes", .ref hl), ("bonds", .ref b), ("mail", .ref ml), ("bores", .ref bo), ("ever", .int e)]
/-- kept but at some places -/
def Off (as : List Addr) (H H' : Hp) : Prop := ∀ b o, H b = some o → b ∉ as → H' b = some o
theorem Off.trans {as bs : List Addr} {H H1 H2 : Hp} (h : Off as H H1) (k : Off bs H1 H2) : Off (as ++ bs) H H2 := fun b o e nb => k b o (h b o e fun m => nb (List.mem_append_left _ m)) fun m => nb (List.mem_append_right _ m)
theorem Off.of_same {H H' : Hp} (s : Same H H') : Off [] H H' := fun b o e _ => s b o e
theorem Off.sub {as bs : List Addr} {H H' : Hp} (h : Off as H H') (s : ∀ a ∈ as, a ∈ bs) : Off bs H H' := fun b o e nb => h b o e fun m => nb (s b m)
/-- a def that may raise, where it doesn't -/
theorem calm_fn {P : Program} {w : World} {K : PySem.W.Frag} {mg : Str → Option Value} {base : Heap} {k : Nat} {f : Addr} {fd : FuncData} {ps : List Str} {sp : Sp} (F : FnOk P w K mg base (L2.CX P w) k f fd ps sp) : FnOk P w K mg base CX0 k f fd ps (fun vs H Q _ => sp vs H Q (fun _ _ _ => False)) := by
  refine ⟨fun vs H Q E h => F.len vs H Q _ h, fun A outer s H args us vs Q E hr e0 hb r hs => ?_⟩
  refine codeAny_mono (F.run A outer s H args us vs Q _ hr e0 hb r hs) fun r s' h => ?_
  match r, h with
  | .ok (.ret u), h => exact h
  | .error e, h =>
    obtain ⟨a, B, H', cls, d, _, _, _, _, _, _, _, z⟩ := h
    exact z
/-- len(list or tuple) within a comprehension -/
def rLenK (K : PySem.W.Frag) : List V → Hp → VK → Prop := fun xs H Q => ∃ (p : Addr) (ys : List V), xs = [V.ref p] ∧ (SqL K H p ys ∨ SqT K H p ys) ∧ Q (V.int (ys.length : Nat)) H
/-- where a house's things lie -/
structure HomeA where
  x : Addr
  dx : Addr
  nu : Addr
  dn : Addr
  dhd : Addr
  sg : Addr
  wt : Addr
  st : Addr
  nw : Addr
  qu : Addr
/-- its dicts -/
def HomeA.ds (a : HomeA) : List Addr := [a.dhd, a.st, a.nw]
/-- its lists -/
def HomeA.ls (a : HomeA) : List Addr := [a.sg, a.wt, a.qu]
structure HomeAt (H : Hp) (CH CN : Addr) (a : HomeA) (nm lo hi : Int) (n : Nat) (us : List Int) (kvs : List (Key × V)) : Prop where
  me : H a.x = some (.ins CH a.dx (homeF nm a.nu a.sg a.wt a.st a.nw a.qu))
  num : NumAt H CN a.nu a.dn a.dhd lo hi us
  sg : H a.sg = some (.lst [])
  wt : H a.wt = some (.lst (List.replicate n .non))
  st : H a.st = some (.dK kvs)
  nw : H a.nw = some (.dK [])
  qu : H a.qu = some (.lst [])
theorem HomeAt.off {H H' : Hp} {CH CN : Addr} {a : HomeA} {nm lo hi : Int} {n : Nat} {us : List Int} {kvs : List (Key × V)} {as : List Addr} (h : HomeAt H CH CN a nm lo hi n us kvs) (o : Off as H H') (hd : ∀ y ∈ a.ds, y ∉ as) (hn : ∀ y ∈ as, (∃ kv, H y = some (.dK kv)) ∨ ∃ C dx e f, C ≠ CH ∧ C ≠ CN ∧ H y = some (.ins C dx (e :: f))) : HomeAt H' CH CN a nm lo hi n us kvs := by
  have lst : ∀ {y xs}, H y = some (.lst xs) → y ∉ as := fun e m => by
    rcases hn _ m with ⟨kv, z⟩ | ⟨C, dx, a, f, _, _, z⟩ <;> (rw [e] at z; cases z)
  have ins1 : ∀ {y dx f}, H y = some (.ins CH dx f) → y ∉ as := fun e m => by
    rcases hn _ m with ⟨kv, z⟩ | ⟨C, dx, a, f, h1, _, z⟩
    · rw [e] at z; cases z
    · rw [e] at z; injection z with z; injection z with z; exact h1 z.symm
  have ins2 : ∀ {y dx f}, H y = some (.ins CN dx f) → y ∉ as := fun e m => by
    rcases hn _ m with ⟨kv, z⟩ | ⟨C, dx, a, f, _, h1, z⟩
    · rw [e] at z; cases z
    · rw [e] at z; injection z with z; injection z with z; exact h1 z.symm
  exact ⟨o _ _ h.me (ins1 h.me), ⟨o _ _ h.num.1 (ins2 h.num.1), o _ _ h.num.2 (hd _ (by simp [HomeA.ds]))⟩, o _ _ h.sg (lst h.sg), o _ _ h.wt (lst h.wt), o _ _ h.st (hd _ (by simp [HomeA.ds])), o _ _ h.nw (hd _ (by simp [HomeA.ds])), o _ _ h.qu (lst h.qu)⟩
theorem HomeAt.putL {H : Hp} {CH CN D : Addr} {a : HomeA} {nm lo hi : Int} {n : Nat} {us : List Int} {kvs : List (Key × V)} {xs ys : List V} (h : HomeAt H CH CN a nm lo hi n us kvs) (hD : H D = some (.lst xs)) (nd : D ∉ a.ls) : HomeAt (upd H D (.lst ys)) CH CN a nm lo hi n us kvs := by
  have k : ∀ {y o}, H y = some o → o ≠ .lst xs → upd H D (.lst ys) y = some o := fun e ne => by rw [upd_ne (fun q => ne (by rw [q, hD] at e; exact (Option.some.inj e).symm))]; exact e
  have l : ∀ {y o}, H y = some o → y ∈ a.ls → upd H D (.lst ys) y = some o := fun e m => by rw [upd_ne (fun q => nd (by rw [← q]; exact m))]; exact e
  exact ⟨k h.me (fun z => by cases z), ⟨k h.num.1 (fun z => by cases z), k h.num.2 (fun z => by cases z)⟩, l h.sg (by simp [HomeA.ls]), l h.wt (by simp [HomeA.ls]), k h.st (fun z => by cases z), k h.nw (fun z => by cases z), l h.qu (by simp [HomeA.ls])⟩
theorem spare_first {lo hi : Int} (h : goodR lo hi) : ∃ r, spare [] (wide lo hi) lo = lo :: r := by
  obtain ⟨_, h2, _⟩ := h
  have e : wide lo hi = (wide lo hi - 1) + 1 := by unfold wide; omega
  rw [e, spare_s, if_neg (by simp)]
  exact ⟨_, rfl⟩
theorem HomeAt.same {H H' : Hp} {CH CN : Addr} {a : HomeA} {nm lo hi : Int} {n : Nat} {us : List Int} {kvs : List (Key × V)} (h : HomeAt H CH CN a nm lo hi n us kvs) (s : Same H H') : HomeAt H' CH CN a nm lo hi n us kvs :=
  h.off (Off.of_same s) (fun _ _ => by simp) (fun _ m => by simp at m)
/-- an object under work at x: what was there ahead stands but at x -/
theorem Off.fresh {x p : Addr} {H H' : Hp} {o : HO} (h : Off [x] H H') (hx : H' x = some o) (hp : H' p = none) : H p = none ∧ p ≠ x := by
  have ne : p ≠ x := fun q => by rw [q, hx] at hp; cases hp
  refine ⟨?_, ne⟩
  cases e : H p with
  | none => rfl
  | some u => rw [h p u e (by simp [ne])] at hp; cases hp
theorem Off.put {x : Addr} {H H' : Hp} {o : HO} (h : Off [x] H H') : Off [x] H (upd H' x o) := fun b u e nb => by rw [upd_ne (fun q => nb (by simp [q]))]; exact h b u e nb
theorem Off.new {x p : Addr} {H H' : Hp} {o : HO} (h : Off [x] H H') (hp : H' p = none) : Off [x] H (upd H' p o) := fun b u e nb => by rw [upd_ne (ne_of_none (h b u e nb) hp)]; exact h b u e nb
structure SlipA where
  sl : Addr
  dsl : Addr
  wh : Addr
  pa : Addr
  td : Addr
structure SlipAt (H : Hp) (CS : Addr) (s : SlipA) (nm lo age : Int) : Prop where
  me : H s.sl = some (.ins CS s.dsl (slipF lo (.ref s.wh) .non (.ref s.pa) age "live" s.td))
  wh : H s.wh = some (.tup [.str "goal", .int nm])
  pa : H s.pa = some (.tup [.int nm])
  td : H s.td = some (.dK [])
theorem SlipAt.same {H H' : Hp} {CS : Addr} {a : SlipA} {nm lo age : Int} (h : SlipAt H CS a nm lo age) (s : Same H H') : SlipAt H' CS a nm lo age := ⟨s _ _ h.me, s _ _ h.wh, s _ _ h.pa, s _ _ h.td⟩
structure WebC where
  W : Addr
  H : Addr
  N : Addr
  S : Addr
structure WebA where
  x : Addr
  dx : Addr
  hl : Addr
  b : Addr
  ml : Addr
  bo : Addr
  hs : List HomeA
  ss : List SlipA
/-- a web as it begins, in ranges rs -/
structure Fresh (H : Hp) (c : WebC) (a : WebA) (rs : List (Int × Int)) : Prop where
  me : H a.x = some (.ins c.W a.dx (webF a.hl a.b a.ml a.bo (rs.length : Nat)))
  hl : H a.hl = some (.lst (a.hs.map fun h => V.ref h.x))
  b : H a.b = some (.dK [])
  ml : H a.ml = some (.dK [])
  bo : H a.bo = some (.dK [])
  lh : a.hs.length = rs.length
  ls : a.ss.length = rs.length
  n1 : 1 ≤ rs.length
  n8 : rs.length ≤ 8
  home : ∀ (i : Nat) (h : HomeA) (r : Int × Int) (s : SlipA), a.hs[i]? = some h → rs[i]? = some r → a.ss[i]? = some s → goodR r.1 r.2 ∧ HomeAt H c.H c.N h (i : Nat) r.1 r.2 rs.length [r.1] [(Sum.inl r.1, V.ref s.sl)] ∧ SlipAt H c.S s (i : Nat) r.1 ((i : Nat) + 1)
theorem Fresh.same {H H' : Hp} {c : WebC} {a : WebA} {rs : List (Int × Int)} (h : Fresh H c a rs) (s : Same H H') : Fresh H' c a rs :=
  ⟨s _ _ h.me, s _ _ h.hl, s _ _ h.b, s _ _ h.ml, s _ _ h.bo, h.lh, h.ls, h.n1, h.n8, fun i x r z h1 h2 h3 => let ⟨g, q1, q2⟩ := h.home i x r z h1 h2 h3; ⟨g, q1.same s, q2.same s⟩⟩
/-- the ranges as they are handed in -/
def RangesAt (H : Hp) (l : Addr) (rs : List (Int × Int)) : Prop := ∃ ts : List Addr, H l = some (.lst (ts.map V.ref)) ∧ Paired (fun t (r : Int × Int) => H t = some (.tup [.int r.1, .int r.2])) ts rs
def TooMX (C : Addr) (n : Int) (H : Hp) (E : XK) : Prop := ∀ (d : Addr) (H' : Hp), H d = none → Same H H' → H' d = some (.xd [("bound", .int n), ("word", .str "toomany")]) → E (.ref C) (some d) H'
/-- [.. for i, x in enumerate(list)] -/
theorem lc_enum {K : PySem.W.Frag} {a : Addr} {xs : List V} {g : TG} {tt : TT} {te : TE} {own : List Nat} {σ : L2.St} {Ha : Hp} {D : Addr} {Z : Hp → Prop} (B : Nat → Hp → Prop) (hb : B 0 (upd Ha D (.lst []))) (hq : ∀ j Hj, B j Hj → SqL K Hj a xs)
    (step : ∀ j x N Hj, xs[j]? = some x → B j Hj → Hj N = none → g (.ref N) (wipe σ own) (upd Hj N (.tup [.int (j : Nat), x])) fun σ' Hk => wipe σ' own = wipe σ own ∧ tt σ' Hk fun ok Hl =>
      if ok = true then te σ' Hl fun y Hm => ∃ got, Hm D = some (.lst got) ∧ got.length < sizeLine ∧ B (j + 1) (upd Hm D (.lst (got ++ [y]))) else B (j + 1) Hl)
    (out : ∀ Hj, B xs.length Hj → Z Hj) :
    ∃ V : Nat → Nat → Hp → Prop, (∃ m, V 0 m (upd Ha D (.lst []))) ∧ ∀ j m Hj, V j m Hj → ((Ite K a).stop j Hj ∧ Z Hj) ∨ ((Ite K a).go j Hj ∧ ∃ F : Hp → Prop, (∀ Hk, F Hk → ∃ m', m' < m ∧ V (j + 1) m' Hk) ∧
      ∀ y Hk, (Ite K a).yld j Hj y Hk → g y (wipe σ own) Hk fun σ' Hl => wipe σ' own = wipe σ own ∧ tt σ' Hl fun ok Hm =>
        if ok = true then te σ' Hm fun u Hn => ∃ got, Hn D = some (.lst got) ∧ got.length < sizeLine ∧ F (upd Hn D (.lst (got ++ [u]))) else F Hm) := by
  refine ⟨fun j m Hj => m + j = xs.length ∧ B j Hj, ⟨xs.length, rfl, hb⟩, ?_⟩
  rintro j m Hj ⟨em, bj⟩
  have q := hq j Hj bj
  rcases Nat.lt_or_ge j xs.length with c | c
  · have hx : xs[j]? = some xs[j] := List.getElem?_eq_getElem c
    refine .inr ⟨⟨xs, _, q, hx⟩, B (j + 1), fun Hk bk => ⟨m - 1, by omega, by omega, bk⟩, ?_⟩
    rintro y Hk ⟨N, x, rfl, hN, rfl, h1⟩
    exact step j x N Hj (h1 xs q) bj hN
  · have ej : j = xs.length := by omega
    subst ej
    exact .inl ⟨⟨xs, q, Nat.le_refl _⟩, out Hj bj⟩
theorem HomeAt.putW {H : Hp} {CH CN CW x dx : Addr} {a : HomeA} {nm lo hi : Int} {n : Nat} {us : List Int} {kvs : List (Key × V)} {f f' : List (Str × V)} (h : HomeAt H CH CN a nm lo hi n us kvs) (h1 : CW ≠ CH) (h2 : CW ≠ CN) (hx : H x = some (.ins CW dx f)) : HomeAt (upd H x (.ins CW dx f')) CH CN a nm lo hi n us kvs := by
  have k : ∀ {y o}, H y = some o → o ≠ .ins CW dx f → upd H x (.ins CW dx f') y = some o := fun e ne => by rw [upd_ne (fun q => ne (by rw [q, hx] at e; exact (Option.some.inj e).symm))]; exact e
  exact ⟨k h.me (fun z => by injection z with z; exact h1 z.symm), ⟨k h.num.1 (fun z => by injection z with z; exact h2 z.symm), k h.num.2 (fun z => by cases z)⟩, k h.sg (fun z => by cases z), k h.wt (fun z => by cases z), k h.st (fun z => by cases z), k h.nw (fun z => by cases z), k h.qu (fun z => by cases z)⟩
theorem HomeAt.ds_some {H : Hp} {CH CN y : Addr} {a : HomeA} {nm lo hi : Int} {n : Nat} {us : List Int} {kvs : List (Key × V)} (h : HomeAt H CH CN a nm lo hi n us kvs) (hy : H y = none) (m : y ∈ a.ds) : False := by
  simp only [HomeA.ds, List.mem_cons, List.not_mem_nil, or_false] at m
  rcases m with rfl | rfl | rfl
  · rw [h.num.2] at hy; cases hy
  · rw [h.st] at hy; cases hy
  · rw [h.nw] at hy; cases hy
theorem web_step {H H1 : Hp} {C x dx p D : Addr} {f F : List (Str × V)} {xs : List V} (o1 : Off [x] H H1) (x1 : H1 x = some (.ins C dx f)) (np : H1 p = none) (hD : H1 D = some (.lst xs)) (nxD : D ≠ x) :
    Off [x] H (upd (upd H1 p (.dK [])) x (.ins C dx F)) ∧ upd (upd H1 p (.dK [])) x (.ins C dx F) x = some (.ins C dx F) ∧ upd (upd H1 p (.dK [])) x (.ins C dx F) p = some (.dK []) ∧ upd (upd H1 p (.dK [])) x (.ins C dx F) D = some (.lst xs) ∧ upd H1 p (.dK []) x = some (.ins C dx f) := by
  have npx : p ≠ x := fun q => by rw [q, x1] at np; cases np
  refine ⟨(o1.new np).put, upd_same, ?_, ?_, ?_⟩
  · rw [upd_ne npx]; exact upd_same
  · rw [upd_ne nxD, upd_ne (ne_of_none hD np)]; exact hD
  · rw [upd_ne (Ne.symm npx)]; exact x1
theorem web_keep {H1 : Hp} {C x dx p y : Addr} {f F : List (Str × V)} {kv : List (Key × V)} (x1 : H1 x = some (.ins C dx f)) (np : H1 p = none) (hy : H1 y = some (.dK kv)) : upd (upd H1 p (.dK [])) x (.ins C dx F) y = some (.dK kv) := by
  rw [upd_ne (ne_of hy x1 (fun z => by cases z)), upd_ne (ne_of_none hy np)]
  exact hy
theorem HomeAt.ds_dict {H : Hp} {CH CN C y dx : Addr} {a : HomeA} {nm lo hi : Int} {n : Nat} {us : List Int} {kvs : List (Key × V)} {f : List (Str × V)} (h : HomeAt H CH CN a nm lo hi n us kvs) (hy : H y = some (.ins C dx f)) (m : y ∈ a.ds) : False := by
  simp only [HomeA.ds, List.mem_cons, List.not_mem_nil, or_false] at m
  rcases m with rfl | rfl | rfl
  · rw [h.num.2] at hy; cases hy
  · rw [h.st] at hy; cases hy
  · rw [h.nw] at hy; cases hy
theorem flat_one : ∀ {hs : List HomeA} {h : HomeA}, (hs.flatMap HomeA.ds).Nodup → h ∈ hs → h.ds.Nodup
  | [], _, _, m => by cases m
  | g :: r, h, nd, m => by
    rw [List.flatMap_cons, List.nodup_append] at nd
    rcases List.mem_cons.mp m with rfl | m
    · exact nd.1
    · exact flat_one nd.2.1 m
theorem flat_ne : ∀ {hs : List HomeA} {i j : Nat} {g h : HomeA} {y : Addr}, (hs.flatMap HomeA.ds).Nodup → hs[j]? = some g → hs[i]? = some h → j ≠ i → y ∈ g.ds → y ∈ h.ds → False
  | [], i, j, g, h, y, _, ej, _, _, _, _ => by simp at ej
  | q :: r, i, j, g, h, y, nd, ej, ei, ne, m1, m2 => by
    rw [List.flatMap_cons, List.nodup_append] at nd
    cases j with
    | zero =>
      cases i with
      | zero => exact ne rfl
      | succ i =>
        cases ej
        exact nd.2.2 y m1 y (List.mem_flatMap.mpr ⟨h, List.mem_of_getElem? ei, m2⟩) rfl
    | succ j =>
      cases i with
      | zero =>
        cases ei
        exact nd.2.2 y m2 y (List.mem_flatMap.mpr ⟨g, List.mem_of_getElem? ej, m1⟩) rfl
      | succ i => exact flat_ne nd.2.1 ej ei (fun z => ne (by rw [z])) m1 m2
/-- what is never come to -/
def tNo : TE := fun _ _ _ => False
def tNoT : TT := fun _ _ _ => False
theorem pe_never {X : Cx} {e : Expr} : PE X e tNo := ⟨fun _ _ _ _ _ _ h => h.elim⟩
theorem pts_never {X : Cx} {es : List Expr} : PTs X es tNoT := ⟨fun _ _ _ _ _ _ h => h.elim⟩
/-- a field within a comprehension -/
theorem pe_fldK {X : Cx} {K : PySem.W.Frag} (hK : X.K = K) {o : Expr} {f : Str} {pos : Pos} {ta : TE} (h : PE X (.Attribute o f pos) (tFld X.K ta f)) : PE X (.Attribute o f pos) (tFld K ta f) := by subst hK; exact h
/-- an empty walk -/
theorem lc_nil {K : PySem.W.Frag} {a : Addr} {g : TG} {tt : TT} {te : TE} {vs : List Nat} {σ : L2.St} {Ha : Hp} {D : Addr} {Z : Hp → Prop} (hq : SqL K (upd Ha D (.lst [])) a []) (out : Z (upd Ha D (.lst []))) :
    ∃ W : Nat → Nat → Hp → Prop, (∃ m, W 0 m (upd Ha D (.lst []))) ∧ ∀ i m H, W i m H →
      ((Itl K a).stop i H ∧ Z H) ∨ ((Itl K a).go i H ∧ ∃ Nx : Hp → Prop, (∀ H', Nx H' → ∃ m', m' < m ∧ W (i + 1) m' H') ∧ ∀ x H', (Itl K a).yld i H x H' → g x (wipe σ vs) H' fun σ2 H2 => wipe σ2 vs = wipe σ vs ∧ tt σ2 H2 fun b H3 =>
        if b = true then te σ2 H3 fun y H4 => ∃ acc, H4 D = some (.lst acc) ∧ acc.length < sizeLine ∧ Nx (upd H4 D (.lst (acc ++ [y]))) else Nx H3) :=
  lc_list (K := K) (a := a) (xs := []) (fun i H' => H' = upd Ha D (.lst [])) rfl (fun i H' _ e => by rw [e]; exact hq) (fun i x H' hx => by simp at hx) (fun H' e => by rw [e]; exact out)
theorem paired_monoM {α β : Type} {R R' : α → β → Prop} : ∀ {xs : List α} {ys : List β}, (∀ a b, a ∈ xs → R a b → R' a b) → Paired R xs ys → Paired R' xs ys
  | _, _, _, .nil => .nil
  | _, _, h, .cons r t => .cons (h _ _ (List.mem_cons_self ..) r) (paired_monoM (fun a b m q => h a b (List.mem_cons_of_mem _ m) q) t)
theorem Fresh.putL {H : Hp} {c : WebC} {a : WebA} {rs : List (Int × Int)} {y : Addr} {xs ys : List V} (F : Fresh H c a rs) (hy : H y = some (.lst xs)) (n1 : y ≠ a.hl) (n2 : ∀ h ∈ a.hs, y ∉ h.ls) : Fresh (upd H y (.lst ys)) c a rs := by
  have k : ∀ {z o}, H z = some o → o ≠ .lst xs → upd H y (.lst ys) z = some o := fun e ne => by rw [upd_ne (fun q => ne (by rw [q, hy] at e; exact (Option.some.inj e).symm))]; exact e
  refine ⟨k F.me (fun z => by cases z), by rw [upd_ne (Ne.symm n1)]; exact F.hl, k F.b (fun z => by cases z), k F.ml (fun z => by cases z), k F.bo (fun z => by cases z), F.lh, F.ls, F.n1, F.n8, fun i h r s h1 h2 h3 => ?_⟩
  obtain ⟨g, q1, q2⟩ := F.home i h r s h1 h2 h3
  exact ⟨g, q1.putL hy (n2 h (List.mem_of_getElem? h1)), k q2.me (fun z => by cases z), k q2.wh (fun z => by cases z), k q2.pa (fun z => by cases z), k q2.td (fun z => by cases z)⟩
end K

/-! raise C(..): the reading, by what is wished of the refusal -/
namespace K
open PySem PySem.Spec PyProof.Rows L2
section
variable {P : Program} {w : World} {K : PySem.W.Frag} {mg : Str → Option Value} {base : Heap} {k : Nat} {x : Str} {C fI : Addr} {fd : FuncData} {σ : L2.St} {H : Hp} {E : XK}
theorem raise0 {wd : Str} (N : ExcC P w K mg base k x C fI fd ["self"] (spIn0 K wd)) (hX : BareX C wd H E) : tMkO C (spIn0 K wd) [] tNil σ H (fun cls d H' => E cls d H') := by
  refine ⟨(by show 0 ≤ 1000; decide), fun a na => ?_⟩
  refine ⟨a, C, rfl, N.t.oex, N.t.word, upd_same, fun dx2 H3 nd ne k2 ha2 hd2 => ⟨rfl, dx2, _, ha2, hd2, ?_, ?_⟩⟩
  · rw [upd_ne ne] at nd
    exact nd
  · have nd0 : H dx2 = none := by rw [upd_ne ne] at nd; exact nd
    exact hX dx2 _ nd0 (raised_same na (fun b o e hb => k2 b o (by rw [upd_ne hb]; exact e) hb) nd0) upd_same
/-- .. with an int under f -/
def IntX (C : Addr) (f wd : Str) (i : Int) (H : Hp) (E : XK) : Prop := ∀ (d : Addr) (H' : Hp), H d = none → Same H H' → H' d = some (.xd [(f, .int i), ("word", .str wd)]) → E (.ref C) (some d) H'
theorem raise1 {f wd : Str} {ps : List Str} {i : Int} {t : TA} (N : ExcC P w K mg base k x C fI fd ps (spIn1 K f wd askInt gotSame)) (fl : PySem.W.findIn K (.ref C) f = some none) (hi : i.natAbs.log2 < 1920) (ht : ∀ Q, Q [V.int i] H → t σ H Q) (hX : IntX C f wd i H E) : tMkO C (spIn1 K f wd askInt gotSame) [] t σ H (fun cls d H' => E cls d H') := by
  refine ht _ ⟨(by show 1 ≤ 1000; decide), fun a na => ?_⟩
  refine ⟨a, C, _, rfl, ⟨i, rfl, hi⟩, N.t.oex, N.t.word, fl, upd_same, fun dx v' H2 nd ne k2 ha2 hd2 hv => ⟨rfl, dx, _, ha2, hd2, ?_, ?_⟩⟩
  · rw [upd_ne ne] at nd
    exact nd
  · have hv : v' = .int i := hv
    subst hv
    have nd0 : H dx = none := by rw [upd_ne ne] at nd; exact nd
    exact hX dx _ nd0 (raised_same na (fun b o e hb => k2 b o (by rw [upd_ne hb]; exact e) hb) nd0) upd_same
theorem raise2 {ps : List Str} {i j : Int} {t : TA} (N : ExcC P w K mg base k x C fI fd ps (spIn2 K "one" "other" "notie")) (f1 : PySem.W.findIn K (.ref C) "one" = some none) (f2 : PySem.W.findIn K (.ref C) "other" = some none) (hi : i.natAbs.log2 < 1920) (hj : j.natAbs.log2 < 1920) (ht : ∀ Q, Q [V.int i, V.int j] H → t σ H Q) (hX : TieX C i j H E) : tMkO C (spIn2 K "one" "other" "notie") [] t σ H (fun cls d H' => E cls d H') := by
  refine ht _ ⟨(by show 2 ≤ 1000; decide), fun a na => ?_⟩
  refine ⟨a, C, i, j, rfl, hi, hj, N.t.oex, N.t.word, f1, f2, upd_same, fun dx H2 nd ne k2 ha2 hd2 => ⟨rfl, dx, _, ha2, hd2, ?_, ?_⟩⟩
  · rw [upd_ne ne] at nd
    exact nd
  · have nd0 : H dx = none := by rw [upd_ne ne] at nd; exact nd
    exact hX dx _ nd0 (raised_same na (fun b o e hb => k2 b o (by rw [upd_ne hb]; exact e) hb) nd0) upd_same
end
end K

/-! dicts whose keys are pairs of small ints: sorted(d) -/
namespace SwD
open PySem PySem.Spec PyProof.Rows L2 K
/-- the pair (i, j) as a key -/
def kp (k : Int × Int) : List Key := [.inl k.1, .inl k.2]
def PairAt (H : Hp) (b : Addr) (k : Int × Int) : Prop := H b = some (.tup [.int k.1, .int k.2])
def small (k : Int × Int) : Prop := 0 ≤ k.1 ∧ k.1 < 64 ∧ 0 ≤ k.2 ∧ k.2 < 64
/-- rising pairs -/
def below (a b : Int × Int) : Prop := a.1 * 64 + a.2 ≤ b.1 * 64 + b.2
theorem pick {α β : Type} {R : α → β → Prop} : ∀ {xs : List α} {ys : List β}, (∀ x ∈ xs, ∃ y, R x y) → ∃ ys, Paired R xs ys
  | [], _, _ => ⟨[], .nil⟩
  | x :: xs, ys, h => by
    obtain ⟨y, hy⟩ := h x (List.mem_cons_self ..)
    obtain ⟨zs, hz⟩ := pick (ys := ys) (xs := xs) fun z m => h z (List.mem_cons_of_mem _ m)
    exact ⟨y :: zs, .cons hy hz⟩
section
variable {X : Cx}
def rSortDT : List V → Hp → VK → Prop := fun xs H Q => ∃ (a : Addr) (kvs : List (List Key × V)) (ks : List (Int × Int)), xs = [.ref a] ∧ Rd H a (.dT kvs) ∧ kvs.map (·.1) = ks.map kp ∧ ks.length < 64 ∧ (∀ k ∈ ks, small k) ∧
  ∀ (bs : List Addr) (ys : List (Int × Int)) (p : Addr), ys.Perm ks → ys.Pairwise below → Paired (PairAt H) bs ys → H p = none → Q (.ref p) (upd H p (.lst (bs.map V.ref)))
theorem call_sortedDT (hc : X.calm = true) : CallR X (.builtin "sorted") rSortDT := by
  intro pins s σ H xs us Q I r h
  obtain ⟨d, kvs, ks, rfl, hd, hks, h64, hsm, q⟩ := h
  obtain ⟨u, rfl, rx⟩ := r.one
  cases rx
  obtain ⟨z, hs, xs', pr, o, es, ep, ho, hx, hdt, he, hn⟩ := (show ObjOk X.prog X.w H s.heap d (.dT kvs) from hd.ok I.hok)
  have l1 : es.size = xs'.length := size_of_entries he
  have l2 : kvs.length = xs'.length := Paired.length pr
  have l3 : kvs.length = ks.length := by
    have := congrArg List.length hks
    rw [List.length_map, List.length_map] at this
    exact this
  have lz : (64 : Nat) ≤ sizeLine := by decide
  refine Calls.call_function_entry PyProof.Rows.kind_sorted PyProof.Rows.plain_sorted PyProof.Rows.entry_sorted (PyProof.Rows.args_sorted1 _) ?_
  unfold Builtin.«sorted»
  refine wpAny_bind (m := checkCount "sorted" 1 1 _) (wpAny_pure ?_)
  refine wpAny_bind (PySem.W.kdu_collect (A := X.A.in1) (kdl_raw hs hx hdt) (I.ok.hd hc) ho (by omega) fun h' tk acc kp' it => ?_)
  have I1 : Inv X pins σ H { s with heap := h', toks := tk } := I.kept kp'
  have hl : acc.toList.length = ks.length := by rw [Array.length_toList, it.1]; omega
  -- each item is the reference of a pair
  have item : ∀ (j : Nat) (v : Value), acc.toList[j]? = some v → ∃ (b : Addr) (k : Int × Int), v = Value.ref b ∧ ks[j]? = some k ∧ PairAt H b k := fun j v hj => by
    obtain ⟨en, hen, hv⟩ := it.2 j v (by rw [← Array.getElem?_toList]; exact hj)
    have qe := entry_at he j
    rw [hen] at qe
    cases hb : xs'[j]? with
    | none => rw [hb] at qe; exact nomatch (show some en = none from qe)
    | some b =>
      rw [hb] at qe
      have e2 : en = entryOfKey (tupleKind (mixKind X.prog X.w)) b := Option.some.inj qe
      obtain ⟨e, he', hp⟩ : ∃ e, kvs[j]? = some e ∧ e.1 = b.1 ∧ H b.2.1 = some (.tup (e.1.map kV)) := by
        have jl : j < kvs.length := by have := (List.getElem?_eq_some_iff.mp hb).1; omega
        obtain ⟨y, hy, hr⟩ := paired_at pr j _ (List.getElem?_eq_getElem jl)
        rw [hb] at hy
        cases hy
        exact ⟨_, List.getElem?_eq_getElem jl, hr.1, hr.2.1⟩
      have jk : j < ks.length := by have := (List.getElem?_eq_some_iff.mp hb).1; omega
      have ek : e.1 = kp ks[j] := by
        have := congrArg (fun l => l[j]?) hks
        simp only [List.getElem?_map, he', List.getElem?_eq_getElem jk, Option.map_some] at this
        exact Option.some.inj this
      refine ⟨b.2.1, ks[j], by rw [hv, e2]; rfl, List.getElem?_eq_getElem jk, ?_⟩
      have := hp.2
      rw [ek] at this
      exact this
  have itemM : ∀ v ∈ acc.toList, ∃ (b : Addr) (k : Int × Int), v = Value.ref b ∧ k ∈ ks ∧ PairAt H b k := fun v m => by
    obtain ⟨j, hj⟩ := List.mem_iff_getElem?.mp m
    obtain ⟨b, k, h1, h2, h3⟩ := item j v hj
    exact ⟨b, k, h1, List.mem_of_getElem? h2, h3⟩
  have tint : ∀ {h2 : Heap}, (∀ b o, h'.get? b = some o → h2.get? b = some o) → ∀ b k, PairAt H b k → TS.TupInts h2 (.ref b) [k.1, k.2] := fun {h2} kh b k hb => by
    have J : Inv X pins σ H { s with heap := h2, toks := tk } := I1.kept kh
    exact tupI_raw (ns := [k.1, k.2]) J (SqT.of hb)
  refine wpAny_bind (wpAny_newList ?_ (by rw [hl]; omega))
  have hoL : (h'.push (seqObj "list" acc.toList.toArray 0)).get? h'.objs.size = some (seqObj "list" acc.toList.toArray 0) := Heap.get?_push_size _ rfl
  have push : ∀ b o, h'.get? b = some o → (h'.push (seqObj "list" acc.toList.toArray 0)).get? b = some o := fun b o e => Heap.get?_push_of_some _ e
  show wpAny _ _ _ _ _ { s with heap := h'.push (seqObj "list" acc.toList.toArray 0), toks := tk }
  refine wpAny_bind (wpAny_holding (wpAny_call_entry PyProof.Rows.slot_list_sort ⟨_, hoL, rfl⟩ PyProof.Rows.entry_list_sort
    (TS.sort_tups (s := { s with heap := h'.push (seqObj "list" acc.toList.toArray 0), toks := tk }) (d := 2) (B := 64) hoL (by rw [hl]; exact h64) (by decide) (fun v hv => ?_) (fun v => TS.code 64 (TS.intsOf (h'.push (seqObj "list" acc.toList.toArray 0)) v)) (fun v hv ns t => ?_) fun out g1 g2 => ⟨_, rfl, ?_⟩) (PyProof.Rows.args_list_sort _)))
  · obtain ⟨b, k, rfl, mk, hb⟩ := itemM v hv
    obtain ⟨s1, s2, s3, s4⟩ := hsm k mk
    refine ⟨_, tint push b k hb, rfl, ?_⟩
    intro x hx
    simp only [List.mem_cons, List.not_mem_nil, or_false] at hx
    rcases hx with rfl | rfl
    · exact ⟨s1, s2⟩
    · exact ⟨s3, s4⟩
  · show TS.code 64 (TS.intsOf _ v) = _
    rw [t.ints]
  · obtain ⟨c, hcc⟩ := PyProof.Rows.sortedHeap_at (vs := acc.toList) (out := out) hoL
    -- the places and their pairs
    obtain ⟨bs, hbs⟩ := pick (R := fun (v : Value) (b : Addr) => v = .ref b ∧ ∃ k, k ∈ ks ∧ PairAt H b k) (ys := ([] : List Addr)) (xs := out.toList) fun v m => by
      obtain ⟨b, k, e, mk, hb⟩ := itemM v (g1.mem_iff.mp m)
      exact ⟨b, e, k, mk, hb⟩
    have eo : out.toList = bs.map Value.ref := by
      clear g1 g2 hcc
      generalize out.toList = l at hbs
      induction hbs with
      | nil => rfl
      | cons h _ ih => rw [h.1, ih]; rfl
    obtain ⟨f, hf⟩ : ∃ f : Value → Int × Int, f = fun v => ((TS.intsOf (h'.push (seqObj "list" acc.toList.toArray 0)) v).getD 0 0, (TS.intsOf (h'.push (seqObj "list" acc.toList.toArray 0)) v).getD 1 0) := ⟨_, rfl⟩
    have intsB : ∀ b k, PairAt H b k → TS.intsOf (h'.push (seqObj "list" acc.toList.toArray 0)) (.ref b) = [k.1, k.2] := fun b k hb => (tint push b k hb).ints
    have fv : ∀ b k, PairAt H b k → f (.ref b) = k := fun b k hb => by
      rw [hf]
      show ((TS.intsOf _ (Value.ref b)).getD 0 0, (TS.intsOf _ (Value.ref b)).getD 1 0) = k
      rw [intsB b k hb]
      rfl
    have eks : acc.toList.map f = ks := by
      apply List.ext_getElem?
      intro j
      rw [List.getElem?_map]
      cases hj : acc.toList[j]? with
      | none =>
        rw [List.getElem?_eq_none (by have := List.getElem?_eq_none_iff.mp hj; omega)]
        rfl
      | some v =>
        obtain ⟨b, k, rfl, hk, hb⟩ := item j v hj
        rw [hk, Option.map_some, fv b k hb]
    have hpr : Paired (PairAt H) bs (out.toList.map f) := by
      clear g1 g2 hcc eo
      generalize out.toList = l at hbs
      induction hbs with
      | nil => exact .nil
      | cons h _ ih =>
        obtain ⟨e, k, _, hb⟩ := h
        refine .cons ?_ ih
        rw [e, fv _ k hb]
        exact hb
    have hlen : (bs.map V.ref).length ≤ sizeLine := by
      rw [List.length_map, ← paired_len hbs, g1.length_eq]
      omega
    refine wpAny_pure ⟨_, rfl, .ref h'.objs.size, upd H h'.objs.size (.lst (bs.map V.ref)), I1.laid (t' := tk) (fun b u e => ?_) (Nat.le_refl _) ⟨hlen, out.toList, c, by rw [eo]; exact vals_refs _, hcc⟩, rfl, q bs (out.toList.map f) _ (by rw [← eks]; exact g1.map f) ?_ hpr (I1.hok.fresh (Nat.le_refl _))⟩
    · have hb : b < h'.objs.size := Heap.lt_size e
      rw [PyProof.Rows.sortedHeap_old (Nat.ne_of_lt hb) (by rw [size_push']; exact Nat.lt_succ_of_lt hb)]
      exact Heap.get?_push_of_some _ e
    · rw [List.pairwise_map]
      refine List.Pairwise.imp_of_mem (fun {u v} mu mv huv => ?_) g2
      obtain ⟨b, k, rfl, _, hb⟩ := itemM u (g1.mem_iff.mp mu)
      obtain ⟨b', k', rfl, _, hb'⟩ := itemM v (g1.mem_iff.mp mv)
      have huv : TS.code 64 (TS.intsOf _ _) ≤ TS.code 64 (TS.intsOf _ _) := huv
      rw [intsB b k hb, intsB b' k' hb', code_pair, code_pair] at huv
      rw [fv b k hb, fv b' k' hb']
      exact huv
end
end SwD

/-! dicts whose keys are tuples: del d[k], d.pop(k); an empty dict seen the other way -/
namespace SwD
open PySem PySem.Spec PyProof.Rows L2 K
theorem KT_without {H : Hp} (k : List Key) : ∀ {kvs : List (List Key × V)} {xs : List (List Key × Addr × Value)}, KT H kvs xs → KT H (dropK kvs k) (withoutH xs k) := fun h => L2.DX.KT_drop k h
section
variable {X : Cx} {pins : List (Addr × Obj)} {σ : L2.St} {H : Hp} {s : Shared}
theorem dt_without {a : Addr} {kvs : List (List Key × V)} {k : List Key} {xs : List (List Key × Addr × Value)} {h' : Heap} {tk : Nat} (I : Inv X pins σ H s) (ha : H a = some (.dT kvs)) (z : kvs.length ≤ sizeLine) (hd : (a == sysModules) = false) (rel : KT H kvs xs) (dd : h'.DictOfH (tupleKind (mixKind X.prog X.w)) a (withoutH xs k)) (hs : Heap.SameBut a s.heap h') :
    Inv X pins σ (upd H a (.dT (dropK kvs k))) { s with heap := h', toks := tk } := by
  obtain ⟨o, es, ep, hq, h2, h3, h4, _, h5⟩ := dd
  exact d_write I (by rw [ha]; exact True.intro) hs ⟨o, hq⟩ ⟨Nat.le_trans (dropK_le kvs k) z, hd, _, (KT_without k rel).keeps (fun c ys ec => (by rw [upd_ne (ne_of ec ha (fun z => nomatch z))]; exact ec)), o, es, ep, hq, h2, h3, h4, h5⟩
theorem at_some {H : Hp} {kvs : List (List Key × V)} {xs : List (List Key × Addr × Value)} {k : List Key} {v : V} (rel : KT H kvs xs) (hv : valV kvs k = some v) : ∃ p, atKey xs k = some p ∧ RelV v p.2 := by
  have r := rel.val k
  rw [hv] at r
  cases e : atKey xs k with
  | none => rw [e] at r; exact (show False from r).elim
  | some p => rw [e] at r; exact ⟨p, rfl, r⟩
def sDDelT (td ty : TE) : TS := fun D σ H => td σ H fun x H1 => ty σ H1 fun y H2 => ∃ a kvs k b v, x = .ref a ∧ H2 a = some (.dT kvs) ∧ y = .ref b ∧ H2 b = some (.tup (k.map kV)) ∧ valV kvs k = some v ∧ D.nx σ (upd H2 a (.dT (dropK kvs k)))
theorem ps_ddelT {o i : Expr} {tpos pos : Pos} {td ty : TE} (hu : X.A.units + 1 < cLine) (ho : PE X o td) (hi : PE X i ty) : PS X (.Delete [.Subscript o i tpos] pos) (sDDelT td ty) := by
  refine ⟨fun pins s σ H D I h => ?_⟩
  refine wpAny_Delete (wpAny_deleteEach_cons (wpAny_delete_Subscript (thn (ho.run pins s σ H _ I h) fun u s1 ⟨x, H1, I1, rx, q1⟩ => thn (hi.run pins s1 σ H1 _ I1 q1) fun iv s2 ⟨y, H2, I2, ry, a, kvs, k, b, v, ex, e, ey, eb, l, q2⟩ => ?_)))
  subst ex ey
  obtain rfl : u = Value.ref a := rx
  obtain rfl : iv = Value.ref b := ry
  obtain ⟨z, hd, xs, rel, dd⟩ := dt_of I2.hok e
  obtain ⟨p, hp, _⟩ := at_some rel l
  exact wpAny_delItem_heap (tupleKind_room_in1 hu) (key_of I2.hok eb) hd dd hp (fun h' dd' hs => wpAny_deleteEach_nil ⟨σ, _, dt_without I2 e z hd rel dd' hs, q2⟩) (by rw [← Paired.length rel]; exact z)
def rPopT1 : V → List V → Hp → VK → Prop := fun x xs H Q => ∃ (a : Addr) (kvs : List (List Key × V)) (k : List Key) (b : Addr) (v : V), x = .ref a ∧ xs = [.ref b] ∧ H a = some (.dT kvs) ∧ H b = some (.tup (k.map kV)) ∧ valV kvs k = some v ∧ Q v (upd H a (.dT (dropK kvs k)))
theorem mt_popT1 (hu : X.A.units + 1 < cLine) : MtR X "dict.pop" rPopT1 := by
  intro pins s σ H x xs v us Q I rx rxs h
  obtain ⟨a, kvs, k, b, v0, rfl, rfl, ha, hb, hv, q⟩ := h
  cases rx
  obtain ⟨u1, rfl, r1⟩ := vals1 rxs
  cases r1
  obtain ⟨z, hd, xs', rel, dd⟩ := dt_of I.hok ha
  obtain ⟨p, hp, rv⟩ := at_some rel hv
  exact call_pop_heap (.inl rfl) (PySem.F.args_dict_pop_2 _ _) (tupleKind_room_in1 hu) (key_of I.hok hb) hd dd hp (fun h' dd' hs => ⟨v0, _, dt_without I ha z hd rel dd' hs, rv, q⟩) (by rw [← Paired.length rel]; exact z)
/-- an empty dict: seen as one of tuple keys -/
theorem inv_retag {a : Addr} (I : Inv X pins σ H s) (ha : H a = some (.dK [])) : Inv X pins σ (upd H a (.dT [])) s := by
  obtain ⟨z, hd, vs, rel, dd⟩ := dk_of I.hok ha
  cases rel
  obtain ⟨o, es, ep, h1, h2, h3, h4, h5, h6⟩ := dd
  have he : es.toList = [] := List.length_eq_zero_iff.mp h5.length
  have J := I.write (t' := s.toks) (x := a) (e := a) (o := .dT []) (h' := s.heap) (by rw [ha]; exact True.intro) (.inl rfl) (fun b u _ q => q) ⟨o, h1⟩ ⟨Nat.zero_le _, hd, [], .nil, o, es, ep, h1, h2, h3, by rw [he]; rfl, List.nodup_nil⟩
  exact J
def retag (as : List Addr) (H : Hp) : Hp := as.foldl (fun H a => upd H a (.dT [])) H
theorem inv_retags : ∀ {as : List Addr} {H : Hp}, Inv X pins σ H s → (∀ a ∈ as, H a = some (.dK [])) → as.Nodup → Inv X pins σ (retag as H) s
  | [], H, I, _, _ => I
  | a :: as, H, I, h, nd => by
    have nd' := List.nodup_cons.mp nd
    exact inv_retags (H := upd H a (.dT [])) (inv_retag I (h a (by simp))) (fun b m => by rw [upd_ne (fun e => nd'.1 (by rw [← e]; exact m))]; exact h b (List.mem_cons_of_mem _ m)) nd'.2
theorem retag_at : ∀ {as : List Addr} {H : Hp} {a : Addr}, a ∈ as → retag as H a = some (.dT [])
  | b :: as, H, a, m => by
    by_cases h : a ∈ as
    · exact retag_at (H := upd H b (.dT [])) h
    · rcases List.mem_cons.mp m with e | e
      · subst e
        show retag as (upd H a (.dT [])) a = _
        have : ∀ {as : List Addr} {H : Hp}, a ∉ as → retag as H a = H a := by
          intro as
          induction as with
          | nil => intro H _; rfl
          | cons c cs ih =>
            intro H n
            show retag cs (upd H c (.dT [])) a = _
            rw [ih (fun z => n (List.mem_cons_of_mem _ z)), upd_ne (fun z => n (by rw [z]; simp))]
        rw [this h, upd_same]
      · exact absurd e h
theorem retag_off : ∀ {as : List Addr} {H : Hp} {a : Addr}, a ∉ as → retag as H a = H a
  | [], _, _, _ => rfl
  | c :: cs, H, a, n => by
    show retag cs (upd H c (.dT [])) a = _
    rw [retag_off (fun z => n (List.mem_cons_of_mem _ z)), upd_ne (fun z => n (by rw [z]; simp))]
/-- a statement, then some empty dicts seen the other way -/
def tRetag (t : TS) : TS := fun D σ H => t { D with nx := fun σ1 H1 => ∃ as : List Addr, (∀ a ∈ as, H1 a = some (.dK [])) ∧ as.Nodup ∧ D.nx σ1 (retag as H1) } σ H
theorem ps_retag {st : Stmt} {t : TS} (h : PS X st t) : PS X st (tRetag t) := by
  refine ⟨fun pins s σ H D I hq => ?_⟩
  refine wpAny_mono (h.run pins s σ H _ I hq) (fun fl s' hs => ?_) fun _ _ e => e
  cases fl with
  | next =>
    obtain ⟨σ', H', I', as, h1, h2, q⟩ := hs
    exact ⟨σ', _, inv_retags I' h1 h2, q⟩
  | brk => exact hs
  | cont => exact hs
  | ret u => exact hs
end
end SwD

/-! d != {}, d a dict keyed by tuples -/
namespace SwD
open PySem PySem.Spec PyProof.Rows L2 K
section
variable {prog : Program} {w : World} {A : Around} {E : Value → Shared → Prop} {s : Shared}
/-- two dicts of other sizes -/
theorem ne_sizes {a b : Addr} {oa ob : Obj} {es es' : Array DictEntry} {ep ep' : Nat} {Q : Value → Shared → Prop} (ha : (a == sysModules) = false) (hb : (b == sysModules) = false) (ga : s.heap.get? a = some oa) (xa : oa.ExactDict) (da : oa.data = .dict es ep) (gb : s.heap.get? b = some ob) (xb : ob.ExactDict) (db : ob.data = .dict es' ep')
    (hn : es.size ≠ es'.size) (hu : A.units < cLine) (h : Q (.bool true) s) : wpAny (model prog w) A (compareOp .NotEq (.ref a) (.ref b)) Q E s := by
  have ta : s.TypeIs (.ref a) "dict" := ⟨oa, ga, xa.1⟩
  have tb : s.TypeIs (.ref b) "dict" := ⟨ob, gb, xb.1⟩
  refine wpAny_richCompare_same_room (op := .NotEq) ta tb PySem.F.slot_dict_ne (wpAny_call_entry PySem.F.slot_dict_ne ta PySem.F.entry_dict_ne ?_ (PySem.F.args_dict_ne_2 _ _)) hu
  show wpAny _ _ (Builtin.Dict.dictSlotArgs "__ne__" ⟨[.ref a, .ref b], []⟩ >>= _) _ _ s
  refine wpAny_bind ?_
  unfold Builtin.Dict.dictSlotArgs
  refine wpAny_bind (wpAny_notOrdered_dict ta ?_)
  show wpAny _ _ (pure (Value.ref a, Value.ref b)) _ _ s
  refine wpAny_pure ?_
  refine wpAny_bind (wpAny_isInstance (T := "dict") tb PySem.F.sub_dict_dict ?_)
  simp only [Bool.not_true, Bool.false_eq_true, if_false]
  refine wpAny_bind (wpAny_pure (wpAny_bind (wpAny_pure ?_)))
  refine wpAny_bind ?_
  unfold Builtin.Dict.samePairs Builtin.Dict.showsAll
  rw [if_neg (by rw [ha]; exact Bool.false_ne_true), if_neg (by rw [hb]; exact Bool.false_ne_true)]
  refine wpAny_bind (wpAny_pure (wpAny_bind (wpAny_pure ?_)))
  refine wpAny_bind (wpAny_dictEntries ga da ?_)
  dsimp only
  refine wpAny_bind (wpAny_dictEntries gb db ?_)
  rw [if_pos (by simpa using hn)]
  refine wpAny_bind (wpAny_rule (wpAny_pure ?_))
  exact wpAny_pure ⟨_, rfl, (fun x => nomatch x), (by simpa using h)⟩
end
section
variable {X : Cx}
/-- d != e, e an empty dict -/
def rNeT : R2 := fun x y H Q => ∃ (a b : Addr) (kvs : List (List Key × V)), x = .ref a ∧ y = .ref b ∧ H a = some (.dT kvs) ∧ H b = some (.dK []) ∧ Q (.bl (!kvs.isEmpty)) H
theorem op_neT (hu : X.A.units < cLine) : OpR X (compareOp .NotEq) rNeT := by
  intro pins s σ H x y v u Q I rx ry h
  obtain ⟨a, b, kvs, rfl, rfl, ea, eb, q⟩ := h
  obtain rfl : v = Value.ref a := rx
  obtain rfl : u = Value.ref b := ry
  obtain ⟨z, ya, xs, ra, oa, es, ep, ga, xa, da, he, hnd⟩ := (show ObjOk X.prog X.w H s.heap a (.dT kvs) from I.hok a _ ea)
  obtain ⟨_, yb, vb, rb, db⟩ := (show ObjOk X.prog X.w H s.heap b (.dK []) from I.hok b _ eb)
  cases rb
  have lk : es.size = kvs.length := by rw [Paired.length ra]; exact size_of_entries he
  cases kvs with
  | nil =>
    have e0 : es.toList = [] := List.length_eq_zero_iff.mp (by rw [Array.length_toList, lk]; rfl)
    have dd : s.heap.DictOf (mixKind X.prog X.w) a [] := ⟨oa, es, ep, ga, xa, da, (fun e m => absurd (Array.mem_toList_iff.mpr m) (by rw [e0]; simp)), (by rw [e0]; exact .nil), List.nodup_nil⟩
    exact PySem.W.keq_ne (knd := mixKind X.prog X.w) (r := true) ya yb dd db hu (fun _ => .nil) ⟨.bl false, H, I, rfl, q⟩
  | cons e r =>
    obtain ⟨ob, es', ep', gb, xb, hdb, _, pb, _⟩ := db
    have lb : es'.size = 0 := by
      have := pb.length
      rw [Array.length_toList] at this
      exact this
    refine ne_sizes ya yb ga xa da gb xb hdb (by rw [lk, lb]; exact Nat.succ_ne_zero _) hu ⟨.bl true, H, I, rfl, q⟩
end
end SwD

/-! a web with ties, whose houses have their own slips alone: how it lies in the heap -/
namespace K
open PySem PySem.Spec PyProof.Rows L2 SwD
def HomeA.adr (h : HomeA) : List Addr := [h.x, h.nu, h.dhd, h.sg, h.wt, h.st, h.nw, h.qu]
def SlipA.adr (s : SlipA) : List Addr := [s.sl, s.wh, s.pa]
/-- all that a deed on ties leaves as it is -/
def WebA.adr (a : WebA) : List Addr := [a.x, a.hl, a.bo] ++ a.hs.flatMap HomeA.adr ++ a.ss.flatMap SlipA.adr
structure HomeT (H : Hp) (c : WebC) (h : HomeA) (s : SlipA) (i : Nat) (lo hi : Int) (n : Nat) : Prop where
  me : H h.x = some (.ins c.H h.dx (homeF (i : Nat) h.nu h.sg h.wt h.st h.nw h.qu))
  num : NumAt H c.N h.nu h.dn h.dhd lo hi [lo]
  sg : H h.sg = some (.lst [])
  wt : H h.wt = some (.lst (List.replicate n .non))
  st : H h.st = some (.dK [(Sum.inl lo, V.ref s.sl)])
  nw : H h.nw = some (.dK [])
  qu : H h.qu = some (.lst [])
  sl : H s.sl = some (.ins c.S s.dsl (slipF lo (.ref s.wh) .non (.ref s.pa) ((i : Nat) + 1) "live" s.td))
  wh : H s.wh = some (.tup [.str "goal", .int (i : Nat)])
  pa : H s.pa = some (.tup [.int (i : Nat)])
theorem HomeT.off {H H' : Hp} {c : WebC} {h : HomeA} {s : SlipA} {i n : Nat} {lo hi : Int} {as : List Addr} (t : HomeT H c h s i lo hi n) (o : Off as H H') (n1 : ∀ y ∈ h.adr, y ∉ as) (n2 : ∀ y ∈ s.adr, y ∉ as) : HomeT H' c h s i lo hi n := by
  simp only [HomeA.adr, SlipA.adr, List.mem_cons, List.not_mem_nil, or_false] at n1 n2
  exact ⟨o _ _ t.me (n1 _ (by simp)), ⟨o _ _ t.num.1 (n1 _ (by simp)), o _ _ t.num.2 (n1 _ (by simp))⟩, o _ _ t.sg (n1 _ (by simp)), o _ _ t.wt (n1 _ (by simp)), o _ _ t.st (n1 _ (by simp)), o _ _ t.nw (n1 _ (by simp)), o _ _ t.qu (n1 _ (by simp)), o _ _ t.sl (n2 _ (by simp)), o _ _ t.wh (n2 _ (by simp)), o _ _ t.pa (n2 _ (by simp))⟩
/-- the still part; m: how often a tie was built -/
structure Still (H : Hp) (c : WebC) (a : WebA) (rs : List (Int × Int)) (m : Nat) : Prop where
  me : H a.x = some (.ins c.W a.dx (webF a.hl a.b a.ml a.bo (rs.length : Nat)))
  hl : H a.hl = some (.lst (a.hs.map fun h => V.ref h.x))
  bo : H a.bo = some (.dK [])
  lh : a.hs.length = rs.length
  ls : a.ss.length = rs.length
  n8 : rs.length ≤ 8
  home : ∀ (i : Nat) (h : HomeA) (r : Int × Int) (s : SlipA), a.hs[i]? = some h → rs[i]? = some r → a.ss[i]? = some s → goodR r.1 r.2 ∧ HomeT H c h s i r.1 r.2 rs.length
  told : ∀ s ∈ a.ss, ∃ kvs, H s.td = some (.dK kvs) ∧ kvs.length ≤ m
  ntd : ∀ s ∈ a.ss, s.td ∉ a.adr
theorem mem_home {a : WebA} {h : HomeA} (m : h ∈ a.hs) : ∀ y ∈ h.adr, y ∈ a.adr := fun y hy => List.mem_append_left _ (List.mem_append_right _ (List.mem_flatMap.mpr ⟨h, m, hy⟩))
theorem mem_slip {a : WebA} {s : SlipA} (m : s ∈ a.ss) : ∀ y ∈ s.adr, y ∈ a.adr := fun y hy => List.mem_append_right _ (List.mem_flatMap.mpr ⟨s, m, hy⟩)
theorem mem_me (a : WebA) : a.x ∈ a.adr ∧ a.hl ∈ a.adr ∧ a.bo ∈ a.adr := by simp [WebA.adr]
theorem Still.off {H H' : Hp} {c : WebC} {a : WebA} {rs : List (Int × Int)} {m : Nat} {as : List Addr} (t : Still H c a rs m) (o : Off as H H') (n1 : ∀ y ∈ a.adr, y ∉ as) (n2 : ∀ s ∈ a.ss, s.td ∉ as) : Still H' c a rs m :=
  ⟨o _ _ t.me (n1 _ (mem_me a).1), o _ _ t.hl (n1 _ (mem_me a).2.1), o _ _ t.bo (n1 _ (mem_me a).2.2), t.lh, t.ls, t.n8, fun i h r s h1 h2 h3 => ⟨(t.home i h r s h1 h2 h3).1, (t.home i h r s h1 h2 h3).2.off o (fun y hy => n1 y (mem_home (List.mem_of_getElem? h1) y hy)) (fun y hy => n1 y (mem_slip (List.mem_of_getElem? h3) y hy))⟩,
    fun s ms => let ⟨kvs, e, l⟩ := t.told s ms; ⟨kvs, o _ _ e (n2 s ms), l⟩, t.ntd⟩
theorem Still.same {H H' : Hp} {c : WebC} {a : WebA} {rs : List (Int × Int)} {m : Nat} (t : Still H c a rs m) (s : Same H H') : Still H' c a rs m := t.off (as := []) (Off.of_same s) (fun _ _ => by simp) (fun _ _ => by simp)
theorem Still.more {H : Hp} {c : WebC} {a : WebA} {rs : List (Int × Int)} {m k : Nat} (t : Still H c a rs m) (h : m ≤ k) : Still H c a rs k := ⟨t.me, t.hl, t.bo, t.lh, t.ls, t.n8, t.home, fun s ms => let ⟨kvs, e, l⟩ := t.told s ms; ⟨kvs, e, by omega⟩, t.ntd⟩
/-- a slip's holders change -/
theorem Still.hold {H : Hp} {c : WebC} {a : WebA} {rs : List (Int × Int)} {m : Nat} {s : SlipA} {kvs : List (Key × V)} (t : Still H c a rs m) (ms : s ∈ a.ss) (hk : kvs.length ≤ m) : Still (upd H s.td (.dK kvs)) c a rs m := by
  have o : Off [s.td] H (upd H s.td (.dK kvs)) := Off.put fun b u e _ => e
  have n1 : ∀ y ∈ a.adr, y ∉ [s.td] := fun y hy z => t.ntd s ms (by rw [← List.mem_singleton.mp z]; exact hy)
  refine ⟨o _ _ t.me (n1 _ (mem_me a).1), o _ _ t.hl (n1 _ (mem_me a).2.1), o _ _ t.bo (n1 _ (mem_me a).2.2), t.lh, t.ls, t.n8, fun i h r z h1 h2 h3 => ⟨(t.home i h r z h1 h2 h3).1, (t.home i h r z h1 h2 h3).2.off o (fun y hy => n1 y (mem_home (List.mem_of_getElem? h1) y hy)) (fun y hy => n1 y (mem_slip (List.mem_of_getElem? h3) y hy))⟩, fun z mz => ?_, t.ntd⟩
  by_cases e : z.td = s.td
  · exact ⟨kvs, by rw [e]; exact upd_same, hk⟩
  · obtain ⟨ks, h1, h2⟩ := t.told z mz
    exact ⟨ks, by rw [upd_ne e]; exact h1, h2⟩
abbrev Bond := (Int × Int) × (Int × Bool)
def BondAt (H : Hp) (kv : List Key × V) (e : Bond) : Prop := kv.1 = kp e.1 ∧ ∃ t, kv.2 = .ref t ∧ H t = some (.tup [.int e.2.1, .bl e.2.2])
/-- the ties -/
structure TW (H : Hp) (c : WebC) (a : WebA) (rs : List (Int × Int)) (bs : List Bond) (ro : List Addr) (m : Nat) : Prop where
  st : Still H c a rs m
  b : ∃ kvs, H a.b = some (.dT kvs) ∧ Paired (BondAt H) kvs bs
  nd : (bs.map (·.1)).Nodup
  ok : ∀ e ∈ bs, 0 ≤ e.1.1 ∧ e.1.1 < e.1.2 ∧ e.1.2 < rs.length
  few : bs.length ≤ 14
  ml : ∃ mvs, H a.ml = some (.dT mvs) ∧ mvs.length ≤ 2 * m ∧ (∀ k : Int × Int, (∃ v, valV mvs (kp k) = some v) ↔ (k ∈ bs.map (·.1) ∨ (k.2, k.1) ∈ bs.map (·.1))) ∧ ∀ e ∈ mvs, ∃ r ∈ ro, e.2 = .ref r
  rows : ∀ r ∈ ro, ∃ ls, H r = some (.lst ls) ∧ ls.length ≤ m
  nb : a.b ∉ a.adr ∧ a.ml ∉ a.adr ∧ a.b ≠ a.ml
  nr : ∀ r ∈ ro, r ∉ a.adr
  nt : ∀ s ∈ a.ss, s.td ≠ a.b ∧ s.td ≠ a.ml
theorem TW.same {H H' : Hp} {c : WebC} {a : WebA} {rs : List (Int × Int)} {bs : List Bond} {ro : List Addr} {m : Nat} (t : TW H c a rs bs ro m) (s : Same H H') : TW H' c a rs bs ro m :=
  ⟨t.st.same s, let ⟨kvs, h1, h2⟩ := t.b; ⟨kvs, s _ _ h1, paired_mono (fun x y ⟨e, v, e1, e2⟩ => ⟨e, v, e1, s _ _ e2⟩) h2⟩, t.nd, t.ok, t.few, let ⟨mvs, h1, h2⟩ := t.ml; ⟨mvs, s _ _ h1, h2⟩, fun r mr => let ⟨ls, h1, h2⟩ := t.rows r mr; ⟨ls, s _ _ h1, h2⟩, t.nb, t.nr, t.nt⟩
/-- what a deed may write -/
def TW.mut (a : WebA) (ro : List Addr) : List Addr := [a.b, a.ml] ++ ro ++ a.ss.map (·.td)
/-- the ties' dict written anew -/
theorem TW.putB {H : Hp} {c : WebC} {a : WebA} {rs : List (Int × Int)} {bs bs' : List Bond} {ro : List Addr} {m : Nat} {kvs : List (List Key × V)} (t : TW H c a rs bs ro m) (hp : Paired (BondAt H) kvs bs') (nd : (bs'.map (·.1)).Nodup) (ok : ∀ e ∈ bs', 0 ≤ e.1.1 ∧ e.1.1 < e.1.2 ∧ e.1.2 < rs.length) (few : bs'.length ≤ 14)
    (hk : ∀ k, k ∈ bs'.map (·.1) ↔ k ∈ bs.map (·.1)) : TW (upd H a.b (.dT kvs)) c a rs bs' ro m := by
  obtain ⟨k0, hb, _⟩ := t.b
  have ne : ∀ {y o}, H y = some o → (∀ kv, o ≠ .dT kv) → upd H a.b (.dT kvs) y = some o := fun e n => by rw [upd_ne (fun q => by rw [q, hb] at e; exact n _ (Option.some.inj e).symm)]; exact e
  refine ⟨t.st.off (as := [a.b]) (Off.put fun b u e _ => e) (fun y hy z => t.nb.1 (by rw [← List.mem_singleton.mp z]; exact hy)) (fun s ms z => (t.nt s ms).1 (List.mem_singleton.mp z)), ⟨kvs, upd_same, paired_mono (fun x y ⟨e, v, e1, e2⟩ => ⟨e, v, e1, ne e2 (fun kv z => by cases z)⟩) hp⟩, nd, ok, few, ?_, fun r mr => ?_, t.nb, t.nr, t.nt⟩
  · obtain ⟨mvs, h1, h2, h3, h4⟩ := t.ml
    refine ⟨mvs, by rw [upd_ne (Ne.symm t.nb.2.2)]; exact h1, h2, fun k => ?_, h4⟩
    rw [h3, hk, hk]
  · obtain ⟨ls, h1, h2⟩ := t.rows r mr
    exact ⟨ls, ne h1 (fun kv z => by cases z), h2⟩
end K

namespace K
open PySem PySem.Spec PyProof.Rows L2
def top (i : Nat) : Stmt := PySem.Challenge.pw_swapslip_k13_ties_built_and_broken.main.body.getD i (.Pass ⟨0, 0, 0, 0⟩)
abbrev sBox : Stmt := top 64
abbrev sTake : Stmt := top 65
section
variable {P : Program} {w : World} {K : PySem.W.Frag} {mg : Str → Option Value} {base : Heap}
theorem scBox : FnScope ["_law_script"] ["_law_script"] (defScope sBox) := ⟨rfl, rfl, rfl, by decide +kernel, rfl, by decide +kernel, by decide +kernel⟩
theorem ok_box {f : Addr} {fd : FuncData} {k : Nat} (F : Fun K "_law_box" "_law_box" sBox f fd) (ml : mg "list" = none) : FnOk P w K mg base CX0 (k + 1) f fd ["_law_script"] (spBox K) := by
  refine F.ok scBox (fun vs H Q E h => ?_) (fun cdv A outer s H vs Q E hr h => ?_)
  · obtain ⟨a, ns, rfl, _⟩ := h
    rfl
  · obtain ⟨a, ns, rfl, hS, hlen, q⟩ := h
    refine ⟨_, pss_one (ps_ret (pe_lst (pa_cons (pe_callTy call_list_of (by rfl) ml (by decide +kernel) (pa_cons (pe_slice sl_list (pv 0) po_none (po_some pe_int)) pa_nil)) (pa_cons pe_int (pa_cons pe_int (pa_cons pe_int pa_nil)))))), ?_⟩
    refine ⟨.ref a, rfl, 63, rfl, a, _, rfl, hS, fun c nc => ?_⟩
    refine ⟨c, _, rfl, .inl (.inl (.inl upd_same)), fun l nl => ?_⟩
    refine ⟨(by show 4 ≤ sizeLine; decide), fun p np => ?_⟩
    have e : ∃ ms : List Int, cutV (ns.map V.int) none (some 63) = ms.map V.int ∧ ms.length ≤ 63 := by
      refine ⟨(ns.drop (HT.sIx ns.length 0 none)).take (HT.sIx ns.length ns.length (some 63) - HT.sIx ns.length 0 none), ?_, ?_⟩
      · unfold cutV
        rw [List.length_map, ← List.map_drop, ← List.map_take]
      · rw [List.length_take, List.length_drop]; omega
    obtain ⟨ms, em, hm⟩ := e
    rw [em] at nl np ⊢
    have s1 := same_upd (o := .lst (ms.map V.int)) nc
    have s2 := same_upd (o := .lst (ms.map V.int)) nl
    have s3 := same_upd (o := .lst [.ref l, .int 0, .int 0, .int 29]) np
    have nlp : l ≠ p := ne_of_none upd_same np
    refine q p l _ (s1.free (s2.free np)) (s1.free nl) ⟨ms, 0, 0, 29, upd_same, ?_, by omega, by omega, by omega, by omega, hm⟩ (s1.trans (s2.trans s3))
    rw [upd_ne nlp, upd_same]
theorem scTake : FnScope ["_law_box_here", "_law_sides", "_law_tail", "_law_cell", "_law_seed"] ["_law_box_here", "_law_sides"] (defScope sTake) := ⟨rfl, rfl, rfl, by decide +kernel, rfl, by decide +kernel, by decide +kernel⟩
theorem ok_take {f : Addr} {fd : FuncData} {k : Nat} (F : Fun K "_law_take" "_law_take" sTake f fd) (mlen : mg "len" = none) : FnOk P w K mg base CX0 (k + 1) f fd ["_law_box_here", "_law_sides"] spTake := by
  refine F.ok scTake (fun vs H Q E h => ?_) (fun cdv A outer s H vs Q E hr h => ?_)
  · obtain ⟨p, q, n, rfl, _⟩ := h
    rfl
  · obtain ⟨p, q, n, rfl, hB, hn, hn2, kk⟩ := h
    refine ⟨_, pss_cons (ps_if (pt_cmpR op_gt (pe_ix ix_list (pv 0) pe_int (fun _ _ => rfl)) pe_int (nomark _))
        (pss_cons (ps_set (i := 2) scTake.nd rfl (.inl rfl) (pe_ix ix_list (pv 0) pe_int (fun _ _ => rfl)))
        (pss_cons (ps_asg (pe_op op_fdivN (pv 2) (pv 1)) (pg_sub (pv 0) pe_int set_list))
        (pss_one (ps_ret (pe_op op_modN (pv 2) (pv 1)))))) pss_nil)
      (pss_cons (ps_set (i := 3) scTake.nd rfl (.inl rfl) pe_int)
      (pss_cons (ps_if (pt_cmpR op_lt (pe_ix ix_list (pv 0) pe_int (fun _ _ => rfl)) (pe_callB call_len_seq (by rfl) mlen PySem.boot_len (pa_cons (pe_ix ix_list (pv 0) pe_int (fun _ _ => rfl)) pa_nil)) (nomark _))
        (pss_cons (ps_set (i := 3) scTake.nd rfl (.inl rfl) (pe_ix ix_list (pe_ix ix_list (pv 0) pe_int (fun _ _ => rfl)) (pe_ix ix_list (pv 0) pe_int (fun _ _ => rfl)) (fun _ _ => rfl)))
        (pss_one (ps_augS (pv 0) pe_int get_listA pe_int ip_add set_list))) pss_nil)
      (pss_cons (ps_if (pt_cmpR op_ge (pv 3) (pe_op op_pow pe_int pe_int) (nomark _))
        (pss_cons (ps_asg (pe_op op_fdivN (pv 3) (pv 1)) (pg_sub (pv 0) pe_int set_list))
        (pss_one (ps_ret (pe_op op_modN (pv 3) (pv 1))))) pss_nil)
      (pss_cons (ps_set (i := 4) scTake.nd rfl (.inl rfl) (pe_ix ix_list (pv 0) pe_int (fun _ _ => rfl)))
      (pss_cons (ps_asg (pe_op op_modN (pe_op op_add (pe_op op_add (pe_op op_add (pe_op op_pow (pv 4) pe_int) (pe_op op_mul pe_int (pv 4))) (pe_op op_mul pe_int (pe_op op_modN (pv 3) pe_int))) pe_int) pe_int) (pg_sub (pv 0) pe_int set_list))
      (pss_one (ps_ret (pe_op op_modN (pe_op op_fdivN (pe_ix ix_list (pv 0) pe_int (fun _ _ => rfl)) pe_int) (pv 1))))))))), ?_⟩
    obtain ⟨ns, i, t, sd, h1, h2, hi0, hi1, hs0, hs1, hl⟩ := id hB
    have npq := hB.ne
    refine ⟨_, rfl, p, _, 2, _, rfl, rfl, SqL.of h1, rfl, _, _, rfl, rfl, _, rfl, ?_⟩
    refine ite2 (fun c => ?_) (fun c => ?_)
    · refine ⟨_, rfl, p, _, 2, _, rfl, rfl, SqL.of h1, rfl, ?_⟩
      refine ⟨_, rfl, _, rfl, t, n, rfl, rfl, ⟨by omega, by omega⟩, _, rfl, p, _, 2, 2, rfl, rfl, h1, rfl, ?_⟩
      refine ⟨_, rfl, _, rfl, t, n, rfl, rfl, (by show n ≠ 0; omega), ?_⟩
      refine kk _ _ (fmod_le hn).1 (fmod_le hn).2 ⟨ns, i, _, sd, upd_same, by rw [upd_ne npq.symm]; exact h2, hi0, hi1, hs0, hs1, hl⟩ But.put
    · -- the cell: some int, the box with another place
      refine ⟨_, rfl, p, _, 1, _, rfl, rfl, SqL.of h1, rfl, _, rfl, p, _, 0, _, rfl, rfl, SqL.of h1, rfl, q, _, rfl, .inl (SqL.of h2), _, _, rfl, rfl, _, rfl, ?_⟩
      rw [List.length_map]
      refine ite2 (fun c => ?_) (fun c => ?_)
      · have hlt : i.toNat < ns.length := by have := of_decide_eq_true c; omega
        have hat : (ns.map V.int)[i.toNat]? = some (.int ns[i.toNat]) := by rw [List.getElem?_map, List.getElem?_eq_getElem hlt]; rfl
        refine ⟨_, rfl, p, _, 0, _, rfl, rfl, SqL.of h1, rfl, _, rfl, p, _, 1, _, rfl, rfl, SqL.of h1, rfl, q, _, i, _, rfl, rfl, SqL.of h2, atI0 hi0 hat, ?_⟩
        refine ⟨_, rfl, p, _, 1, _, rfl, rfl, SqL.of h1, by omega, rfl, i, 1, rfl, rfl, p, _, 1, 1, rfl, rfl, h1, rfl, ?_⟩
        generalize ns[i.toNat] = cell
        have g1 : (upd H p (.lst [.ref q, .int (i + 1), .int t, .int sd])) p = some (.lst [.ref q, .int (i + 1), .int t, .int sd]) := upd_same
        have g2 : (upd H p (.lst [.ref q, .int (i + 1), .int t, .int sd])) q = some (.lst (ns.map V.int)) := by rw [upd_ne npq.symm]; exact h2
        have gi0 : 0 ≤ i + 1 := by omega
        have gi1 : i + 1 ≤ ns.length := by omega
        have gb : But p H (upd H p (.lst [.ref q, .int (i + 1), .int t, .int sd])) := But.put
        show tSeq _ _ _ _ (upd H p (.lst [.ref q, .int (i + 1), .int t, .int sd]))
        generalize upd H p (.lst [.ref q, .int (i + 1), .int t, .int sd]) = H2 at g1 g2 gb ⊢
        generalize i + 1 = i2 at g1 gi0 gi1
        refine ⟨_, rfl, 10, 18, rfl, rfl, ⟨by decide, by decide, by decide⟩, _, _, rfl, rfl, _, rfl, ?_⟩
        refine ite2 (fun c2 => ?_) (fun c2 => ?_)
        · refine ⟨_, rfl, _, rfl, _, n, rfl, rfl, ⟨by omega, by omega⟩, _, rfl, p, _, 2, 2, rfl, rfl, g1, rfl, ?_⟩
          refine ⟨_, rfl, _, rfl, _, n, rfl, rfl, (by show n ≠ 0; omega), ?_⟩
          exact kk _ _ (fmod_le hn).1 (fmod_le hn).2 ⟨ns, _, _, sd, upd_same, by rw [upd_ne npq.symm]; exact g2, gi0, gi1, hs0, hs1, hl⟩ (gb.trans But.put)
        · refine ⟨_, rfl, p, _, 3, _, rfl, rfl, SqL.of g1, rfl, ?_⟩
          refine ⟨_, rfl, sd, 3, rfl, rfl, ⟨by decide, by decide, by omega⟩, _, rfl, 69621, sd, rfl, rfl, .inl ⟨by decide, by decide⟩, _, _, rfl, rfl, _, rfl, _, 2147483549, rfl, rfl, (by decide : (2147483549 : Int) ≠ 0),
            48271, _, rfl, rfl, .inl ⟨by decide, by decide⟩, _, _, rfl, rfl, _, _, rfl, rfl, _, 2147483549, rfl, rfl, (by decide : (2147483549 : Int) ≠ 0), _, rfl, p, _, 3, 3, rfl, rfl, g1, rfl, ?_⟩
          refine ⟨_, rfl, p, _, 3, _, rfl, rfl, SqL.of upd_same, rfl, _, 64, rfl, rfl, ⟨by decide, by decide⟩, _, rfl, _, n, rfl, rfl, (by show n ≠ 0; omega), ?_⟩
          exact kk _ _ (fmod_le hn).1 (fmod_le hn).2 ⟨ns, _, _, _, upd_same, by rw [upd_ne npq.symm]; exact g2, gi0, gi1, (fmod_le (by decide)).1, (fmod_le (by decide)).2, hl⟩ (gb.trans But.put)
      · have g1 := h1
        have g2 := h2
        have gi0 := hi0
        have gi1 := hi1
        have gb := But.refl p H
        refine ⟨_, rfl, 10, 18, rfl, rfl, ⟨by decide, by decide, by decide⟩, _, _, rfl, rfl, _, rfl, ?_⟩
        refine ite2 (fun c2 => ?_) (fun c2 => ?_)
        · refine ⟨_, rfl, _, rfl, _, n, rfl, rfl, ⟨by omega, by omega⟩, _, rfl, p, _, 2, 2, rfl, rfl, g1, rfl, ?_⟩
          refine ⟨_, rfl, _, rfl, _, n, rfl, rfl, (by show n ≠ 0; omega), ?_⟩
          exact kk _ _ (fmod_le hn).1 (fmod_le hn).2 ⟨ns, _, _, sd, upd_same, by rw [upd_ne npq.symm]; exact g2, gi0, gi1, hs0, hs1, hl⟩ (gb.trans But.put)
        · refine ⟨_, rfl, p, _, 3, _, rfl, rfl, SqL.of g1, rfl, ?_⟩
          refine ⟨_, rfl, sd, 3, rfl, rfl, ⟨by decide, by decide, by omega⟩, _, rfl, 69621, sd, rfl, rfl, .inl ⟨by decide, by decide⟩, _, _, rfl, rfl, _, rfl, _, 2147483549, rfl, rfl, (by decide : (2147483549 : Int) ≠ 0),
            48271, _, rfl, rfl, .inl ⟨by decide, by decide⟩, _, _, rfl, rfl, _, _, rfl, rfl, _, 2147483549, rfl, rfl, (by decide : (2147483549 : Int) ≠ 0), _, rfl, p, _, 3, 3, rfl, rfl, g1, rfl, ?_⟩
          refine ⟨_, rfl, p, _, 3, _, rfl, rfl, SqL.of upd_same, rfl, _, 64, rfl, rfl, ⟨by decide, by decide⟩, _, rfl, _, n, rfl, rfl, (by show n ≠ 0; omega), ?_⟩
          exact kk _ _ (fmod_le hn).1 (fmod_le hn).2 ⟨ns, _, _, _, upd_same, by rw [upd_ne npq.symm]; exact g2, gi0, gi1, (fmod_le (by decide)).1, (fmod_le (by decide)).2, hl⟩ (gb.trans But.put)
end
end K

namespace K
open PySem PySem.Spec PyProof.Rows L2
abbrev sSame : Stmt := top 67
section
variable {P : Program} {w : World} {K : PySem.W.Frag} {mg : Str → Option Value} {base : Heap}
theorem scSame : FnScope ["_law_found", "_law_due", "_law_x", "_law_y"] ["_law_found", "_law_due"] (defScope sSame) := ⟨rfl, rfl, rfl, by decide +kernel, rfl, by decide +kernel, by decide +kernel⟩
structure SameTxt (mg : Str → Option Value) : Prop where
  isi : mg "isinstance" = none
  lst : mg "list" = none
  tup : mg "tuple" = none
  bool : mg "bool" = none
  int : mg "int" = none
  str : mg "str" = none
  len : mg "len" = none
  all : mg "all" = none
  zip : mg "zip" = none
theorem ok_same {f : Addr} {fd : FuncData} (F : Fun K "_law_same" "_law_same" sSame f fd) (T : SameTxt mg) (gf : mg "_law_same" = some (.ref f)) (b : Binds K fd ["_law_found", "_law_due"] []) : ∀ n : Nat, FnOk P w K mg base CX0 n f fd ["_law_found", "_law_due"] (spSame n)
  | 0 => fnok_never fun vs H Q E ⟨x, y, _, h, _⟩ => h
  | n + 1 => by
    have G := ok_same F T gf b n
    refine F.ok scSame (fun vs H Q E h => ?_) (fun cdv A outer s H vs Q E hr h => ?_)
    · obtain ⟨x, y, rfl, _⟩ := h
      rfl
    · obtain ⟨x, y, rfl, hE, kk⟩ := h
      refine ⟨_, pss_cons (ps_if (pt_val (pe_callB call_isiT (by rfl) T.isi (by decide +kernel) (pa_cons (pv 1) (pa_cons (pe_tup (pa_cons (pe_bltn (v := .ty "list") (by rfl) T.lst (by decide +kernel) rfl) (pa_cons (pe_bltn (v := .ty "tuple") (by rfl) T.tup (by decide +kernel) rfl) pa_nil))) pa_nil))))
          (pss_cons (ps_if (PW.pt (pw_or (pt_cmpR op_ne (pe_callB call_isi (by rfl) T.isi (by decide +kernel) (pa_cons (pv 0) (pa_cons (pe_bltn (v := .ty "list") (by rfl) T.lst (by decide +kernel) rfl) pa_nil)))
                (pe_callB call_isi (by rfl) T.isi (by decide +kernel) (pa_cons (pv 1) (pa_cons (pe_bltn (v := .ty "list") (by rfl) T.lst (by decide +kernel) rfl) pa_nil))) (nomark _))
              (pw_or1 (pt_cmpR op_ne (pe_callB call_isi (by rfl) T.isi (by decide +kernel) (pa_cons (pv 0) (pa_cons (pe_bltn (v := .ty "tuple") (by rfl) T.tup (by decide +kernel) rfl) pa_nil)))
                (pe_callB call_isi (by rfl) T.isi (by decide +kernel) (pa_cons (pv 1) (pa_cons (pe_bltn (v := .ty "tuple") (by rfl) T.tup (by decide +kernel) rfl) pa_nil))) (nomark _))))) (pss_one (ps_ret pe_bl)) pss_nil)
          (pss_one (ps_ret (pe_and (pe_cmpR op_eq (pe_callB call_len_seq (by rfl) T.len PySem.boot_len (pa_cons (pv 0) pa_nil)) (pe_callB call_len_seq (by rfl) T.len PySem.boot_len (pa_cons (pv 1) pa_nil)) (nomark _))
            (pe_one (pe_callB (cr_all rfl) (by rfl) T.all (by decide +kernel) (pa_cons (pe_lc (own := [("_law_x", 2), ("_law_y", 3)]) (g := gTup K 2 (gCons (gName 2) (gCons (gName 3) gNil))) (tt := tYes) rfl scSame.nd (RZ.pi_zipA (by rfl) T.zip (pa_cons (pv 0) (pa_cons (pv 1) pa_nil)))
                (blkOk_by (own := [("_law_x", 2), ("_law_y", 3)]) (N := ["_law_found", "_law_due", "_law_x", "_law_y"]) (sc := defScope sSame) (by decide +kernel))
                (fun _ _ _ _ _ => by exact (pg_tup rfl (pgs_cons (pg_name (i := 2) scSame.nd rfl (Or.inl rfl)) (pgs_cons (pg_name (i := 3) scSame.nd rfl (Or.inl rfl)) pgs_nil)))) (fun _ _ _ _ _ => pts_nil)
                (fun _ _ _ _ _ => pe_call G hr (by rfl) gf F.kp b .nil pass0 (pa_cons (pv 2) (pa_cons (pv 3) pa_nil)))) pa_nil))))))) pss_nil)
        (pss_cons (ps_if (PW.pt (pw_or (pt_cmpR op_ne (pe_cmpR op_isN (pv 0) pe_non (nomark _)) (pe_cmpR op_isN (pv 1) pe_non (nomark _)) (nomark _))
            (pw_or1 (pt_cmpR op_ne (pe_callB call_isi (by rfl) T.isi (by decide +kernel) (pa_cons (pv 0) (pa_cons (pe_bltn (v := .ty "bool") (by rfl) T.bool (by decide +kernel) rfl) pa_nil)))
                (pe_callB call_isi (by rfl) T.isi (by decide +kernel) (pa_cons (pv 1) (pa_cons (pe_bltn (v := .ty "bool") (by rfl) T.bool (by decide +kernel) rfl) pa_nil))) (nomark _))))) (pss_one (ps_ret pe_bl)) pss_nil)
        (pss_cons (ps_if (pt_cmpR op_ne (pe_callB call_isi (by rfl) T.isi (by decide +kernel) (pa_cons (pv 0) (pa_cons (pe_bltn (v := .ty "int") (by rfl) T.int (by decide +kernel) rfl) pa_nil)))
                (pe_callB call_isi (by rfl) T.isi (by decide +kernel) (pa_cons (pv 1) (pa_cons (pe_bltn (v := .ty "int") (by rfl) T.int (by decide +kernel) rfl) pa_nil))) (nomark _)) (pss_one (ps_ret pe_bl)) pss_nil)
        (pss_one (ps_ret (pe_and (pe_cmpR op_eq (pe_callB call_isi (by rfl) T.isi (by decide +kernel) (pa_cons (pv 0) (pa_cons (pe_bltn (v := .ty "str") (by rfl) T.str (by decide +kernel) rfl) pa_nil)))
                (pe_callB call_isi (by rfl) T.isi (by decide +kernel) (pa_cons (pv 1) (pa_cons (pe_bltn (v := .ty "str") (by rfl) T.str (by decide +kernel) rfl) pa_nil))) (nomark _)) (pe_one (pe_cmpR op_eq (pv 0) (pv 1) (nomark _)))))))), ?_⟩
      refine ⟨_, rfl, (by show 2 ≤ sizeLine; decide), fun t nt => ?_⟩
      have s0 : Same H (upd H t (.tup [.ty "list", .ty "tuple"])) := same_upd nt
      have hE1 := Eqv.same s0 hE
      have ht : (upd H t (.tup [.ty "list", .ty "tuple"])) t = some (.tup [.ty "list", .ty "tuple"]) := upd_same
      rcases hE1 with ⟨e, hf⟩ | ⟨a1, a2, xs, ys, rfl, rfl, hab, hl, hz, hi⟩
      · -- flat
        subst e
        cases x with
        | non =>
          refine ⟨_, t, [.ty "list", .ty "tuple"], _, [.type "list", .type "tuple"], false, rfl, ht, .cons (.ty _) (.cons (.ty _) .nil), (.base .non), kit2 (b := false) (c := false) (by decide +kernel) (by decide +kernel), ?_⟩
          refine ⟨_, rfl, iteF ?_⟩
          refine ⟨_, rfl, rfl, _, rfl, rfl, rfl, _, rfl, iteNS rfl ?_⟩
          refine ⟨_, rfl, _, _, _, _, false, rfl, .ty _, (.base .non), kit_ty (by decide +kernel), ?_⟩
          refine ⟨_, rfl, _, _, _, _, false, rfl, .ty _, (.base .non), kit_ty (by decide +kernel), ?_⟩
          refine ⟨rfl, _, rfl, iteNS rfl ?_⟩
          refine ⟨_, rfl, _, _, _, _, false, rfl, .ty _, (.base .non), kit_ty (by decide +kernel), ?_⟩
          refine ⟨_, rfl, _, _, _, _, false, rfl, .ty _, (.base .non), kit_ty (by decide +kernel), ?_⟩
          refine ⟨rfl, _, rfl, iteNS rfl ?_⟩
          refine ⟨_, rfl, _, _, _, _, false, rfl, .ty _, (.base .non), kit_ty (by decide +kernel), ?_⟩
          refine ⟨_, rfl, _, _, _, _, false, rfl, .ty _, (.base .non), kit_ty (by decide +kernel), ?_⟩
          refine ⟨rfl, _, rfl, ?_⟩
          rw [decide_eq_true rfl]
          refine iteT ⟨_, rfl, _, rfl, rfl, ?_⟩
          rw [decide_eq_true rfl]
          exact kk _ s0
        | bl v =>
          refine ⟨_, t, [.ty "list", .ty "tuple"], _, [.type "list", .type "tuple"], false, rfl, ht, .cons (.ty _) (.cons (.ty _) .nil), (.base (.bl v)), kit2 (b := false) (c := false) (by decide +kernel) (by decide +kernel), ?_⟩
          refine ⟨_, rfl, iteF ?_⟩
          refine ⟨_, rfl, rfl, _, rfl, rfl, rfl, _, rfl, iteNS rfl ?_⟩
          refine ⟨_, rfl, _, _, _, _, true, rfl, .ty _, (.base (.bl v)), kit_ty (by decide +kernel), ?_⟩
          refine ⟨_, rfl, _, _, _, _, true, rfl, .ty _, (.base (.bl v)), kit_ty (by decide +kernel), ?_⟩
          refine ⟨rfl, _, rfl, iteNS rfl ?_⟩
          refine ⟨_, rfl, _, _, _, _, true, rfl, .ty _, (.base (.bl v)), kit_ty (by decide +kernel), ?_⟩
          refine ⟨_, rfl, _, _, _, _, true, rfl, .ty _, (.base (.bl v)), kit_ty (by decide +kernel), ?_⟩
          refine ⟨rfl, _, rfl, iteNS rfl ?_⟩
          refine ⟨_, rfl, _, _, _, _, false, rfl, .ty _, (.base (.bl v)), kit_ty (by decide +kernel), ?_⟩
          refine ⟨_, rfl, _, _, _, _, false, rfl, .ty _, (.base (.bl v)), kit_ty (by decide +kernel), ?_⟩
          refine ⟨rfl, _, rfl, ?_⟩
          rw [decide_eq_true rfl]
          refine iteT ⟨_, rfl, _, rfl, rfl, ?_⟩
          rw [decide_eq_true rfl]
          exact kk _ s0
        | int v =>
          refine ⟨_, t, [.ty "list", .ty "tuple"], _, [.type "list", .type "tuple"], false, rfl, ht, .cons (.ty _) (.cons (.ty _) .nil), (.base (.int v)), kit2 (b := false) (c := false) (by decide +kernel) (by decide +kernel), ?_⟩
          refine ⟨_, rfl, iteF ?_⟩
          refine ⟨_, rfl, rfl, _, rfl, rfl, rfl, _, rfl, iteNS rfl ?_⟩
          refine ⟨_, rfl, _, _, _, _, false, rfl, .ty _, (.base (.int v)), kit_ty (by decide +kernel), ?_⟩
          refine ⟨_, rfl, _, _, _, _, false, rfl, .ty _, (.base (.int v)), kit_ty (by decide +kernel), ?_⟩
          refine ⟨rfl, _, rfl, iteNS rfl ?_⟩
          refine ⟨_, rfl, _, _, _, _, true, rfl, .ty _, (.base (.int v)), kit_ty (by decide +kernel), ?_⟩
          refine ⟨_, rfl, _, _, _, _, true, rfl, .ty _, (.base (.int v)), kit_ty (by decide +kernel), ?_⟩
          refine ⟨rfl, _, rfl, iteNS rfl ?_⟩
          refine ⟨_, rfl, _, _, _, _, false, rfl, .ty _, (.base (.int v)), kit_ty (by decide +kernel), ?_⟩
          refine ⟨_, rfl, _, _, _, _, false, rfl, .ty _, (.base (.int v)), kit_ty (by decide +kernel), ?_⟩
          refine ⟨rfl, _, rfl, ?_⟩
          rw [decide_eq_true rfl]
          refine iteT ⟨_, rfl, _, rfl, rfl, ?_⟩
          rw [decide_eq_true rfl]
          exact kk _ s0
        | str v =>
          refine ⟨_, t, [.ty "list", .ty "tuple"], _, [.type "list", .type "tuple"], false, rfl, ht, .cons (.ty _) (.cons (.ty _) .nil), (.base (.str v)), kit2 (b := false) (c := false) (by decide +kernel) (by decide +kernel), ?_⟩
          refine ⟨_, rfl, iteF ?_⟩
          refine ⟨_, rfl, rfl, _, rfl, rfl, rfl, _, rfl, iteNS rfl ?_⟩
          refine ⟨_, rfl, _, _, _, _, false, rfl, .ty _, (.base (.str v)), kit_ty (by decide +kernel), ?_⟩
          refine ⟨_, rfl, _, _, _, _, false, rfl, .ty _, (.base (.str v)), kit_ty (by decide +kernel), ?_⟩
          refine ⟨rfl, _, rfl, iteNS rfl ?_⟩
          refine ⟨_, rfl, _, _, _, _, false, rfl, .ty _, (.base (.str v)), kit_ty (by decide +kernel), ?_⟩
          refine ⟨_, rfl, _, _, _, _, false, rfl, .ty _, (.base (.str v)), kit_ty (by decide +kernel), ?_⟩
          refine ⟨rfl, _, rfl, iteNS rfl ?_⟩
          refine ⟨_, rfl, _, _, _, _, true, rfl, .ty _, (.base (.str v)), kit_ty (by decide +kernel), ?_⟩
          refine ⟨_, rfl, _, _, _, _, true, rfl, .ty _, (.base (.str v)), kit_ty (by decide +kernel), ?_⟩
          refine ⟨rfl, _, rfl, ?_⟩
          rw [decide_eq_true rfl]
          refine iteT ⟨_, rfl, _, rfl, rfl, ?_⟩
          rw [decide_eq_true rfl]
          exact kk _ s0
        | byt v => cases hf
        | flt v => cases hf
        | ref v => cases hf
        | ty v => cases hf
      · rcases hab with ⟨h1, h2⟩ | ⟨h1, h2⟩
        · refine ⟨_, t, [.ty "list", .ty "tuple"], _, [.type "list", .type "tuple"], true, rfl, ht, .cons (.ty _) (.cons (.ty _) .nil), .base (.lst h2), kit2 (b := true) (c := false) (by decide +kernel) (by decide +kernel), ?_⟩
          refine ⟨_, rfl, iteT ?_⟩
          refine ⟨_, rfl, _, _, _, _, true, rfl, .ty _, .base (.lst h1), kit_ty (by decide +kernel), ?_⟩
          refine ⟨_, rfl, _, _, _, _, true, rfl, .ty _, .base (.lst h2), kit_ty (by decide +kernel), ?_⟩
          refine ⟨rfl, _, rfl, iteNS rfl ?_⟩
          refine ⟨_, rfl, _, _, _, _, false, rfl, .ty _, .base (.lst h1), kit_ty (by decide +kernel), ?_⟩
          refine ⟨_, rfl, _, _, _, _, false, rfl, .ty _, .base (.lst h2), kit_ty (by decide +kernel), ?_⟩
          refine ⟨rfl, _, rfl, iteNS rfl ?_⟩
          refine ⟨_, rfl, a1, xs, rfl, .inl (SqL.of h1), _, rfl, a2, ys, rfl, .inl (SqL.of h2), rfl, _, rfl, ?_⟩
          rw [hl, decide_eq_true rfl]
          refine iteT ?_
          refine ⟨_, rfl, _, rfl, a1, a2, xs, ys, rfl, .inl ⟨SqL.of h1, SqL.of h2, fun D nD => ?_⟩⟩
          refine lc_it (walk_zip (xs := xs) (ys := ys) (n := xs.length) (by rw [hl]; simp)) (fun i H' => Same (upd H t (.tup [.ty "list", .ty "tuple"])) H' ∧ H' D = some (.lst ((List.replicate i true).map V.bl)))
            ⟨same_upd nD, upd_same⟩ (fun i H' _ ⟨s1, _⟩ => ⟨SqL.of (s1 _ _ h1), SqL.of (s1 _ _ h2)⟩) ?_ ?_
          · rintro i x H' H2 hi1 ⟨s1, hD⟩ ⟨T2, x', y', rfl, hT, rfl, f1, f2⟩
            have s2 := same_upd (o := .tup [x', y']) hT
            refine ⟨T2, [x', y'], rfl, .inl (.inl upd_same), rfl, x', [y'], rfl, y', [], rfl, rfl, rfl, ?_⟩
            refine ⟨_, rfl, _, rfl, x', y', rfl, (hi i x' y' f1 f2).same (s1.trans s2), fun H3 s3 => ?_⟩
            refine ⟨_, s3 _ _ (s2 _ _ hD), ?_, ?_, ?_⟩
            · rw [List.length_map, List.length_replicate]; exact small1000 (by omega)
            · intro b o e
              rw [upd_ne (ne_of_none e nD)]
              exact s3 _ _ (s2 _ _ (s1 _ _ e))
            · rw [upd_same, List.replicate_succ', List.map_append]
              rfl
          · rintro H' ⟨s1, hD⟩
            refine ⟨D, List.replicate xs.length true, rfl, .inl (.inl hD), ?_⟩
            have e : (List.replicate xs.length true).all id = true := by simp
            rw [e]
            exact kk _ (s0.trans s1)
        · refine ⟨_, t, [.ty "list", .ty "tuple"], _, [.type "list", .type "tuple"], true, rfl, ht, .cons (.ty _) (.cons (.ty _) .nil), .base (.tup h2), kit2 (b := false) (c := true) (by decide +kernel) (by decide +kernel), ?_⟩
          refine ⟨_, rfl, iteT ?_⟩
          refine ⟨_, rfl, _, _, _, _, false, rfl, .ty _, .base (.tup h1), kit_ty (by decide +kernel), ?_⟩
          refine ⟨_, rfl, _, _, _, _, false, rfl, .ty _, .base (.tup h2), kit_ty (by decide +kernel), ?_⟩
          refine ⟨rfl, _, rfl, iteNS rfl ?_⟩
          refine ⟨_, rfl, _, _, _, _, true, rfl, .ty _, .base (.tup h1), kit_ty (by decide +kernel), ?_⟩
          refine ⟨_, rfl, _, _, _, _, true, rfl, .ty _, .base (.tup h2), kit_ty (by decide +kernel), ?_⟩
          refine ⟨rfl, _, rfl, iteNS rfl ?_⟩
          refine ⟨_, rfl, a1, xs, rfl, .inr (SqT.of h1), _, rfl, a2, ys, rfl, .inr (SqT.of h2), rfl, _, rfl, ?_⟩
          rw [hl, decide_eq_true rfl]
          refine iteT ?_
          refine ⟨_, rfl, _, rfl, a1, a2, xs, ys, rfl, .inr ⟨SqT.of h1, SqT.of h2, fun D nD => ?_⟩⟩
          refine lc_it (walk_zipTT (xs := xs) (ys := ys) (n := xs.length) (by rw [hl]; simp)) (fun i H' => Same (upd H t (.tup [.ty "list", .ty "tuple"])) H' ∧ H' D = some (.lst ((List.replicate i true).map V.bl)))
            ⟨same_upd nD, upd_same⟩ (fun i H' _ ⟨s1, _⟩ => ⟨SqT.of (s1 _ _ h1), SqT.of (s1 _ _ h2)⟩) ?_ ?_
          · rintro i x H' H2 hi1 ⟨s1, hD⟩ ⟨T2, x', y', rfl, hT, rfl, f1, f2⟩
            have s2 := same_upd (o := .tup [x', y']) hT
            refine ⟨T2, [x', y'], rfl, .inl (.inl upd_same), rfl, x', [y'], rfl, y', [], rfl, rfl, rfl, ?_⟩
            refine ⟨_, rfl, _, rfl, x', y', rfl, (hi i x' y' f1 f2).same (s1.trans s2), fun H3 s3 => ?_⟩
            refine ⟨_, s3 _ _ (s2 _ _ hD), ?_, ?_, ?_⟩
            · rw [List.length_map, List.length_replicate]; exact small1000 (by omega)
            · intro b o e
              rw [upd_ne (ne_of_none e nD)]
              exact s3 _ _ (s2 _ _ (s1 _ _ e))
            · rw [upd_same, List.replicate_succ', List.map_append]
              rfl
          · rintro H' ⟨s1, hD⟩
            refine ⟨D, List.replicate xs.length true, rfl, .inl (.inl hD), ?_⟩
            have e : (List.replicate xs.length true).all id = true := by simp
            rw [e]
            exact kk _ (s0.trans s1)
end
end K

namespace K
open PySem PySem.Spec PyProof.Rows L2
open Sw (T3 Dist at? relax roundOf rounds)
abbrev sCheck : Stmt := top 38
section
variable {P : Program} {w : World} {K : PySem.W.Frag} {mg : Str → Option Value} {base : Heap}
theorem scCheck : FnScope ["many", "house"] ["many", "house"] (defScope sCheck) := ⟨rfl, rfl, rfl, by decide +kernel, rfl, by decide +kernel, by decide +kernel⟩
theorem ok_check {f : Addr} {fd : FuncData} {k : Nat} (F : Fun K "check_house" "check_house" sCheck f fd) : FnOk P w K mg base CX0 (k + 1) f fd ["many", "house"] spCheck := by
  refine F.ok scCheck (fun vs H Q E h => ?_) (fun cdv A outer s H vs Q E hr h => ?_)
  · obtain ⟨n, g, rfl, _⟩ := h
    rfl
  · obtain ⟨n, g, rfl, hg, q⟩ := h
    refine ⟨_, pss_one (ps_if (PW.pt (pw_or (pt_cmpR op_lt (pv 1) pe_int (nomark _)) (pw_or1 (pt_cmpR op_ge (pv 1) (pv 0) (nomark _))))) (pss_one ps_never) pss_nil), ?_⟩
    refine ⟨_, rfl, _, _, rfl, rfl, _, rfl, ?_⟩
    rw [decide_eq_false (show ¬ ((g : Int) < 0) by omega)]
    refine iteF ?_
    refine ⟨_, rfl, _, rfl, _, _, rfl, rfl, _, rfl, ?_⟩
    rw [decide_eq_false (show ¬ ((n : Int) ≤ (g : Int)) by omega)]
    exact iteF q
end
end K

namespace K
open PySem PySem.Spec PyProof.Rows L2
abbrev sSlipI : Stmt := inClass (top 19) 0
section
variable {P : Program} {w : World} {K : PySem.W.Frag} {mg : Str → Option Value} {base : Heap}
theorem scSlipI : FnScope ["self", "word", "why"] ["self", "word", "why"] (defScope sSlipI) := ⟨rfl, rfl, rfl, by decide +kernel, rfl, by decide +kernel, by decide +kernel⟩
theorem ok_slipI {f CS fS : Addr} {fd : FuncData} {k : Nat} {dvs : List V} (F : FunD K "__init__" "SlipError.__init__" (defArgs sSlipI) (defBody sSlipI) (defScope sSlipI) dvs [] f fd) (T : SlipT K mg CS fS) : FnOk P w K mg base CX0 (k + 1) f fd ["self", "word", "why"] (spSlip K) := by
  refine F.ok scSlipI (fun vs H Q E h => ?_) (fun cdv A outer s H vs Q E hr h => ?_)
  · obtain ⟨a, C, wd, y, rfl, _⟩ := h
    rfl
  · obtain ⟨a, C, wd, y, rfl, oex, hw, ha, q⟩ := h
    refine ⟨_, PSs.nox (pss_cons (ps_expr (pe_veinit (by rfl) T.mV T.vV (pa_cons (pv 0) (pa_cons (pv 2) pa_nil)))) (pss_one (ps_ost (pv 0) (pv 1)))), ?_⟩
    refine ⟨_, rfl, _, rfl, a, C, [.str y], rfl, (by show 1 ≤ 1000; decide), oex, ha, ?_⟩
    exact ⟨_, rfl, _, rfl, a, C, rfl, oex, hw, .inl ⟨ha, fun dx n ne => q dx n ne⟩⟩
end
end K

namespace K
open PySem PySem.Spec PyProof.Rows L2
abbrev sNoHouseI : Stmt := inClass (top 28) 0
section
variable {P : Program} {w : World} {K : PySem.W.Frag} {mg : Str → Option Value} {base : Heap}
theorem scNoHouseI : FnScope ["self", "house"] ["self", "house"] (defScope sNoHouseI) := ⟨rfl, rfl, rfl, by decide +kernel, rfl, by decide +kernel, by decide +kernel⟩
theorem ok_nohouseI {f CS fS : Addr} {fd fdS : FuncData} {k : Nat} (F : Fun K "__init__" "NoHouse.__init__" sNoHouseI f fd) (T : SlipT K mg CS fS) (GS : FnOk P w K mg base CX0 (k + 1) fS fdS ["self", "word", "why"] (spSlip K)) (bS : Binds K fdS ["self", "word", "why"] []) : FnOk P w K mg base CX0 (k + 2) f fd ["self", "house"] (spIn1 K "house" "nohouse" askInt gotSame) := by
  refine F.ok scNoHouseI (fun vs H Q E h => ?_) (fun cdv A outer s H vs Q E hr h => ?_)
  · obtain ⟨a, C, v, rfl, _⟩ := h
    rfl
  · obtain ⟨a, C, v, rfl, hask, oex, hw, hf, ha, q⟩ := h
    refine ⟨_, pss_cons (ps_expr (pe_clsf (pe_glob (v := .ref CS) (by rfl) T.g rfl) T.r T.at_ GS hr T.kp bS pass0 (pa_cons (pv 0) (pa_cons pe_str (pa_cons (pe_joined (.cons pe_str (.cons (pe_fmt (pv 1)) .nil))) pa_nil))))) (pss_one (ps_ost (pv 0) (pv 1))), ?_⟩
    obtain ⟨i, rfl, hi⟩ := hask
    refine ⟨rfl, _, rfl, _, rfl, by decide +kernel, _, rfl, .inr ⟨i, rfl, hi, _, rfl, join2_le (by decide +kernel) (Nat.le_trans (PyProof.Rows.int_text_len_1921 hi) (by decide)), ?_⟩⟩
    refine ⟨a, C, _, _, rfl, oex, hw, ha, fun dx nd ne => ?_⟩
    refine ⟨_, rfl, _, rfl, a, C, rfl, oex, hf, .inr ⟨dx, _, upd_same, by rw [upd_ne ne]; exact upd_same, (by show 1 ≤ 900; decide), ?_⟩⟩
    refine q dx _ _ nd ne (fun b o e hb => ?_) ?_ upd_same rfl
    · rw [upd_ne (ne_of_none e nd), upd_ne hb, upd_ne (ne_of_none e nd)]
      exact e
    · rw [upd_ne (Ne.symm ne)]
      exact upd_same
end
end K

namespace K
open PySem PySem.Spec PyProof.Rows L2
abbrev sNoTieI : Stmt := inClass (top 29) 0
section
variable {P : Program} {w : World} {K : PySem.W.Frag} {mg : Str → Option Value} {base : Heap}
theorem scNoTieI : FnScope ["self", "one", "other"] ["self", "one", "other"] (defScope sNoTieI) := ⟨rfl, rfl, rfl, by decide +kernel, rfl, by decide +kernel, by decide +kernel⟩
theorem join4_le {c m e n : Str} (hc : (Str.empty ++ c).length ≤ 1000) (hm : m.length ≤ 2000) (he : e.length ≤ 1000) (hn : n.length ≤ 2000) : ((((Str.empty ++ c) ++ m) ++ e) ++ n).length ≤ sizeLine := by
  rw [strLen_append, strLen_append, strLen_append, sizeLine_eq]
  omega
theorem ok_notieI {f CS fS : Addr} {fd fdS : FuncData} {k : Nat} (F : Fun K "__init__" "NoTie.__init__" sNoTieI f fd) (T : SlipT K mg CS fS) (GS : FnOk P w K mg base CX0 (k + 1) fS fdS ["self", "word", "why"] (spSlip K)) (bS : Binds K fdS ["self", "word", "why"] []) : FnOk P w K mg base CX0 (k + 2) f fd ["self", "one", "other"] (spIn2 K "one" "other" "notie") := by
  refine F.ok scNoTieI (fun vs H Q E h => ?_) (fun cdv A outer s H vs Q E hr h => ?_)
  · obtain ⟨a, C, i, j, rfl, _⟩ := h
    rfl
  · obtain ⟨a, C, i, j, rfl, hi, hj, oex, hw, hf, hg, ha, q⟩ := h
    refine ⟨_, pss_cons (ps_expr (pe_clsf (pe_glob (v := .ref CS) (by rfl) T.g rfl) T.r T.at_ GS hr T.kp bS pass0 (pa_cons (pv 0) (pa_cons pe_str (pa_cons (pe_joined (.cons pe_str (.cons (pe_fmt (pv 1)) (.cons pe_str (.cons (pe_fmt (pv 2)) .nil))))) pa_nil))))) (pss_cons (ps_ost (pv 0) (pv 1)) (pss_one (ps_ost (pv 0) (pv 2)))), ?_⟩
    refine ⟨rfl, _, rfl, _, rfl, by decide +kernel, _, rfl, .inr ⟨i, rfl, hi, _, rfl, join2_le (by decide +kernel) (Nat.le_trans (PyProof.Rows.int_text_len_1921 hi) (by decide)), ?_⟩⟩
    refine ⟨_, rfl, join3_le (by decide +kernel) (Nat.le_trans (PyProof.Rows.int_text_len_1921 hi) (by decide)) (by decide +kernel), _, rfl, .inr ⟨j, rfl, hj, _, rfl, join4_le (by decide +kernel) (Nat.le_trans (PyProof.Rows.int_text_len_1921 hi) (by decide)) (by decide +kernel) (Nat.le_trans (PyProof.Rows.int_text_len_1921 hj) (by decide)), ?_⟩⟩
    refine ⟨a, C, _, _, rfl, oex, hw, ha, fun dx nd ne => ?_⟩
    refine ⟨_, rfl, _, rfl, a, C, rfl, oex, hf, .inr ⟨dx, _, upd_same, by rw [upd_ne ne]; exact upd_same, (by show 1 ≤ 900; decide), ?_⟩⟩
    refine ⟨_, rfl, _, rfl, a, C, rfl, oex, hg, .inr ⟨dx, _, by rw [upd_ne (Ne.symm ne)]; exact upd_same, upd_same, (by show 2 ≤ 900; decide), ?_⟩⟩
    refine q dx _ nd ne (fun b o e hb => ?_) ?_ upd_same
    · rw [upd_ne (ne_of_none e nd), upd_ne (ne_of_none e nd), upd_ne hb, upd_ne (ne_of_none e nd)]
      exact e
    · rw [upd_ne (Ne.symm ne), upd_ne (Ne.symm ne)]
      exact upd_same
end
end K

namespace K
open PySem PySem.Spec PyProof.Rows L2
abbrev sHasTieI : Stmt := inClass (top 24) 0
section
variable {P : Program} {w : World} {K : PySem.W.Frag} {mg : Str → Option Value} {base : Heap}
theorem scHasTieI : FnScope ["self"] ["self"] (defScope sHasTieI) := ⟨rfl, rfl, rfl, by decide +kernel, rfl, by decide +kernel, by decide +kernel⟩
theorem ok_hastieI {f CS fS : Addr} {fd fdS : FuncData} {k : Nat} (F : Fun K "__init__" "HasTie.__init__" sHasTieI f fd) (T : SlipT K mg CS fS) (GS : FnOk P w K mg base CX0 (k + 1) fS fdS ["self", "word", "why"] (spSlip K)) (bS : Binds K fdS ["self", "word", "why"] []) : FnOk P w K mg base CX0 (k + 2) f fd ["self"] (spIn0 K "hastie") := by
  refine F.ok scHasTieI (fun vs H Q E h => ?_) (fun cdv A outer s H vs Q E hr h => ?_)
  · obtain ⟨a, C, rfl, _⟩ := h
    rfl
  · obtain ⟨a, C, rfl, oex, hw, ha, q⟩ := h
    refine ⟨_, pss_one (ps_expr (pe_clsf (pe_glob (v := .ref CS) (by rfl) T.g rfl) T.r T.at_ GS hr T.kp bS pass0 (pa_cons (pv 0) (pa_cons pe_str (pa_cons pe_str pa_nil))))), ?_⟩
    refine ⟨rfl, _, rfl, a, C, _, _, rfl, oex, hw, ha, fun dx nd ne => ?_⟩
    refine q dx _ nd ne (fun b o e hb => ?_) upd_same (by rw [upd_ne ne]; exact upd_same)
    rw [upd_ne hb, upd_ne (ne_of_none e nd)]
    exact e
end
end K

namespace K
open PySem PySem.Spec PyProof.Rows L2
abbrev sBadPriceI : Stmt := inClass (top 21) 0
section
variable {P : Program} {w : World} {K : PySem.W.Frag} {mg : Str → Option Value} {base : Heap}
theorem scBadPriceI : FnScope ["self"] ["self"] (defScope sBadPriceI) := ⟨rfl, rfl, rfl, by decide +kernel, rfl, by decide +kernel, by decide +kernel⟩
theorem ok_badpriceI {f CS fS : Addr} {fd fdS : FuncData} {k : Nat} (F : Fun K "__init__" "BadPrice.__init__" sBadPriceI f fd) (T : SlipT K mg CS fS) (GS : FnOk P w K mg base CX0 (k + 1) fS fdS ["self", "word", "why"] (spSlip K)) (bS : Binds K fdS ["self", "word", "why"] []) : FnOk P w K mg base CX0 (k + 2) f fd ["self"] (spIn0 K "badprice") := by
  refine F.ok scBadPriceI (fun vs H Q E h => ?_) (fun cdv A outer s H vs Q E hr h => ?_)
  · obtain ⟨a, C, rfl, _⟩ := h
    rfl
  · obtain ⟨a, C, rfl, oex, hw, ha, q⟩ := h
    refine ⟨_, pss_one (ps_expr (pe_clsf (pe_glob (v := .ref CS) (by rfl) T.g rfl) T.r T.at_ GS hr T.kp bS pass0 (pa_cons (pv 0) (pa_cons pe_str (pa_cons pe_str pa_nil))))), ?_⟩
    refine ⟨rfl, _, rfl, a, C, _, _, rfl, oex, hw, ha, fun dx nd ne => ?_⟩
    refine q dx _ nd ne (fun b o e hb => ?_) upd_same (by rw [upd_ne ne]; exact upd_same)
    rw [upd_ne hb, upd_ne (ne_of_none e nd)]
    exact e
end
end K

namespace K
open PySem PySem.Spec PyProof.Rows L2
abbrev sWholeI : Stmt := inClass (top 25) 0
section
variable {P : Program} {w : World} {K : PySem.W.Frag} {mg : Str → Option Value} {base : Heap}
theorem scWholeI : FnScope ["self"] ["self"] (defScope sWholeI) := ⟨rfl, rfl, rfl, by decide +kernel, rfl, by decide +kernel, by decide +kernel⟩
theorem ok_wholeI {f CS fS : Addr} {fd fdS : FuncData} {k : Nat} (F : Fun K "__init__" "Whole.__init__" sWholeI f fd) (T : SlipT K mg CS fS) (GS : FnOk P w K mg base CX0 (k + 1) fS fdS ["self", "word", "why"] (spSlip K)) (bS : Binds K fdS ["self", "word", "why"] []) : FnOk P w K mg base CX0 (k + 2) f fd ["self"] (spIn0 K "whole") := by
  refine F.ok scWholeI (fun vs H Q E h => ?_) (fun cdv A outer s H vs Q E hr h => ?_)
  · obtain ⟨a, C, rfl, _⟩ := h
    rfl
  · obtain ⟨a, C, rfl, oex, hw, ha, q⟩ := h
    refine ⟨_, pss_one (ps_expr (pe_clsf (pe_glob (v := .ref CS) (by rfl) T.g rfl) T.r T.at_ GS hr T.kp bS pass0 (pa_cons (pv 0) (pa_cons pe_str (pa_cons pe_str pa_nil))))), ?_⟩
    refine ⟨rfl, _, rfl, a, C, _, _, rfl, oex, hw, ha, fun dx nd ne => ?_⟩
    refine q dx _ nd ne (fun b o e hb => ?_) upd_same (by rw [upd_ne ne]; exact upd_same)
    rw [upd_ne hb, upd_ne (ne_of_none e nd)]
    exact e
end
end K

namespace K
open PySem PySem.Spec PyProof.Rows L2
abbrev sBrokenI : Stmt := inClass (top 26) 0
section
variable {P : Program} {w : World} {K : PySem.W.Frag} {mg : Str → Option Value} {base : Heap}
theorem scBrokenI : FnScope ["self"] ["self"] (defScope sBrokenI) := ⟨rfl, rfl, rfl, by decide +kernel, rfl, by decide +kernel, by decide +kernel⟩
theorem ok_brokenI {f CS fS : Addr} {fd fdS : FuncData} {k : Nat} (F : Fun K "__init__" "Broken.__init__" sBrokenI f fd) (T : SlipT K mg CS fS) (GS : FnOk P w K mg base CX0 (k + 1) fS fdS ["self", "word", "why"] (spSlip K)) (bS : Binds K fdS ["self", "word", "why"] []) : FnOk P w K mg base CX0 (k + 2) f fd ["self"] (spIn0 K "broken") := by
  refine F.ok scBrokenI (fun vs H Q E h => ?_) (fun cdv A outer s H vs Q E hr h => ?_)
  · obtain ⟨a, C, rfl, _⟩ := h
    rfl
  · obtain ⟨a, C, rfl, oex, hw, ha, q⟩ := h
    refine ⟨_, pss_one (ps_expr (pe_clsf (pe_glob (v := .ref CS) (by rfl) T.g rfl) T.r T.at_ GS hr T.kp bS pass0 (pa_cons (pv 0) (pa_cons pe_str (pa_cons pe_str pa_nil))))), ?_⟩
    refine ⟨rfl, _, rfl, a, C, _, _, rfl, oex, hw, ha, fun dx nd ne => ?_⟩
    refine q dx _ nd ne (fun b o e hb => ?_) upd_same (by rw [upd_ne ne]; exact upd_same)
    rw [upd_ne hb, upd_ne (ne_of_none e nd)]
    exact e
end
end K

namespace K
open PySem PySem.Spec PyProof.Rows L2
abbrev sTooManyI : Stmt := inClass (top 27) 0
section
variable {P : Program} {w : World} {K : PySem.W.Frag} {mg : Str → Option Value} {base : Heap}
theorem scTooManyI : FnScope ["self", "bound"] ["self", "bound"] (defScope sTooManyI) := ⟨rfl, rfl, rfl, by decide +kernel, rfl, by decide +kernel, by decide +kernel⟩
theorem ok_toomanyI {f CS fS : Addr} {fd fdS : FuncData} {k : Nat} (F : Fun K "__init__" "TooMany.__init__" sTooManyI f fd) (T : SlipT K mg CS fS) (GS : FnOk P w K mg base CX0 (k + 1) fS fdS ["self", "word", "why"] (spSlip K)) (bS : Binds K fdS ["self", "word", "why"] []) : FnOk P w K mg base CX0 (k + 2) f fd ["self", "bound"] (spIn1 K "bound" "toomany" askInt gotSame) := by
  refine F.ok scTooManyI (fun vs H Q E h => ?_) (fun cdv A outer s H vs Q E hr h => ?_)
  · obtain ⟨a, C, v, rfl, _⟩ := h
    rfl
  · obtain ⟨a, C, v, rfl, hask, oex, hw, hf, ha, q⟩ := h
    refine ⟨_, pss_cons (ps_expr (pe_clsf (pe_glob (v := .ref CS) (by rfl) T.g rfl) T.r T.at_ GS hr T.kp bS pass0 (pa_cons (pv 0) (pa_cons pe_str (pa_cons (pe_joined (.cons pe_str (.cons (pe_fmt (pv 1)) .nil))) pa_nil))))) (pss_one (ps_ost (pv 0) (pv 1))), ?_⟩
    obtain ⟨i, rfl, hi⟩ := hask
    refine ⟨rfl, _, rfl, _, rfl, by decide +kernel, _, rfl, .inr ⟨i, rfl, hi, _, rfl, join2_le (by decide +kernel) (Nat.le_trans (PyProof.Rows.int_text_len_1921 hi) (by decide)), ?_⟩⟩
    refine ⟨a, C, _, _, rfl, oex, hw, ha, fun dx nd ne => ?_⟩
    refine ⟨_, rfl, _, rfl, a, C, rfl, oex, hf, .inr ⟨dx, _, upd_same, by rw [upd_ne ne]; exact upd_same, (by show 1 ≤ 900; decide), ?_⟩⟩
    refine q dx _ _ nd ne (fun b o e hb => ?_) ?_ upd_same rfl
    · rw [upd_ne (ne_of_none e nd), upd_ne hb, upd_ne (ne_of_none e nd)]
      exact e
    · rw [upd_ne (Ne.symm ne)]
      exact upd_same
end
end K

namespace K
open PySem PySem.Spec PyProof.Rows L2
abbrev sNoNumberI : Stmt := inClass (top 23) 0
section
variable {P : Program} {w : World} {K : PySem.W.Frag} {mg : Str → Option Value} {base : Heap}
theorem scNoNumberI : FnScope ["self"] ["self"] (defScope sNoNumberI) := ⟨rfl, rfl, rfl, by decide +kernel, rfl, by decide +kernel, by decide +kernel⟩
theorem ok_nonumberI {f CS fS : Addr} {fd fdS : FuncData} {k : Nat} (F : Fun K "__init__" "NoNumber.__init__" sNoNumberI f fd) (T : SlipT K mg CS fS) (GS : FnOk P w K mg base CX0 (k + 1) fS fdS ["self", "word", "why"] (spSlip K)) (bS : Binds K fdS ["self", "word", "why"] []) : FnOk P w K mg base CX0 (k + 2) f fd ["self"] (spIn0 K "nonumber") := by
  refine F.ok scNoNumberI (fun vs H Q E h => ?_) (fun cdv A outer s H vs Q E hr h => ?_)
  · obtain ⟨a, C, rfl, _⟩ := h
    rfl
  · obtain ⟨a, C, rfl, oex, hw, ha, q⟩ := h
    refine ⟨_, pss_one (ps_expr (pe_clsf (pe_glob (v := .ref CS) (by rfl) T.g rfl) T.r T.at_ GS hr T.kp bS pass0 (pa_cons (pv 0) (pa_cons pe_str (pa_cons pe_str pa_nil))))), ?_⟩
    refine ⟨rfl, _, rfl, a, C, _, _, rfl, oex, hw, ha, fun dx nd ne => ?_⟩
    refine q dx _ nd ne (fun b o e hb => ?_) upd_same (by rw [upd_ne ne]; exact upd_same)
    rw [upd_ne hb, upd_ne (ne_of_none e nd)]
    exact e
end
end K

namespace K
open PySem PySem.Spec PyProof.Rows L2
open Sw (T3 Dist at? relax roundOf rounds IsNext Cand IsFar nbr candL WayTo lotOf)
abbrev sCheck2 : Stmt := sCheck
section
variable {P : Program} {w : World} {K : PySem.W.Frag} {mg : Str → Option Value} {base : Heap}
theorem ok_checkX {f CH fI : Addr} {fd fdI : FuncData} {k : Nat} (F : Fun K "check_house" "check_house" sCheck f fd) (T : ExcC P w K mg base (k + 2) "NoHouse" CH fI fdI ["self", "house"] (spIn1 K "house" "nohouse" askInt gotSame)) (hfld : PySem.W.findIn K (.ref CH) "house" = some none) : FnOk P w K mg base (L2.CX P w) (k + 4) f fd ["many", "house"] (spCheckX CH) := by
  refine F.okX scCheck (fun vs H Q E h => ?_) (fun cdv A outer s H vs Q E hr h => ?_)
  · obtain ⟨n, h, rfl, _⟩ := h
    rfl
  · obtain ⟨n, h, rfl, hh, hy, hno⟩ := h
    have hr3 : Room (k + 3) _ := hr
    refine ⟨_, pss_one (ps_if (PW.pt (pw_or (pt_cmpR op_lt (pv 1) pe_int (nomark _)) (pw_or1 (pt_cmpR op_ge (pv 1) (pv 0) (nomark _)))))
      (pss_one (ps_raise rfl (takes_of rfl rfl rfl rfl) (pmk_oex T.t.oex T.t.iC T.t.tI T.ok hr3 T.b .nil pass0 (by rfl) T.t.g (pa_cons (pv 1) pa_nil)))) pss_nil), ?_⟩
    have go : ¬ (0 ≤ h ∧ h < n) → tMkO CH (spIn1 K "house" "nohouse" askInt gotSame) [] (tCons (tVar 1) tNil) (L2.start ["many", "house"] [.int (n : Nat), .int h]) H fun cls d H' => E cls d H' := fun c => by
      refine ⟨_, rfl, (by show 1 ≤ 1000; decide), fun a na => ?_⟩
      have hX := hno c
      refine ⟨a, CH, _, rfl, ⟨h, rfl, hh⟩, T.t.oex, T.t.word, hfld, upd_same, fun dx v' H2 nd ne k2 ha2 hd2 hv => ⟨rfl, dx, _, ha2, hd2, ?_, ?_⟩⟩
      · rw [upd_ne ne] at nd
        exact nd
      · have hv : v' = .int h := hv
        subst hv
        have nd0 : H dx = none := by rw [upd_ne ne] at nd; exact nd
        exact hX dx _ nd0 (raised_same na (fun b o e hb => k2 b o (by rw [upd_ne hb]; exact e) hb) nd0) upd_same
    refine ⟨_, rfl, _, _, rfl, rfl, _, rfl, ?_⟩
    refine ite2 (fun c => ?_) (fun c => ?_)
    · have c := of_decide_eq_true c
      exact iteT (go (by omega))
    · have c : ¬ h < 0 := fun z => c (decide_eq_true z)
      refine ⟨_, rfl, _, rfl, _, _, rfl, rfl, _, rfl, ?_⟩
      refine ite2 (fun c2 => ?_) (fun c2 => ?_)
      · have c2 := of_decide_eq_true c2
        exact go (by omega)
      · have c2 : ¬ (n : Int) ≤ h := fun z => c2 (decide_eq_true z)
        exact hy (by omega)
end
end K


namespace K
open PySem PySem.Spec PyProof.Rows L2 SwD
abbrev sW_checks : Stmt := inClass (top 62) 5
abbrev sW_checkT : Stmt := inClass (top 62) 6
abbrev sPair2 : Stmt := top 58
abbrev sPrice : Stmt := top 59
def inH (n : Nat) (h : Int) : Prop := 0 ≤ h ∧ h < n
def lowI (i : Int) : Prop := i.natAbs.log2 < 1920
/-- the first of two houses that there is none of -/
def FirstX (CH : Addr) (n : Nat) (i j : Int) (H : Hp) (E : XK) : Prop := (¬ inH n i → HouseX CH i H E) ∧ (inH n i → ¬ inH n j → HouseX CH j H E)
def spChecksX (c : WebC) (CH : Addr) : Sp := fun vs H Q E => ∃ (x dx hl b ml bo l : Addr) (e : Int) (hs : List V) (i j : Int), vs = [.ref x, .ref l] ∧ H x = some (.ins c.W dx (webF hl b ml bo e)) ∧ H hl = some (.lst hs) ∧ hs.length ≤ 900 ∧ H l = some (.lst [.int i, .int j]) ∧ lowI i ∧ lowI j ∧
  FirstX CH hs.length i j H E ∧ (inH hs.length i → inH hs.length j → Q .non H)
def spPair2 : Sp := fun vs H Q _ => ∃ i j : Int, vs = [.int i, .int j] ∧ ∀ p, H p = none → Q (.ref p) (upd H p (.tup [.int (if j < i then j else i), .int (if j > i then j else i)]))
def spPrice (CP : Addr) : Sp := fun vs H Q E => ∃ i : Int, vs = [.int i] ∧ (1 ≤ i ∧ i ≤ 9 → Q .non H) ∧ (¬ (1 ≤ i ∧ i ≤ 9) → BareX CP "badprice" H E)
/-- (one, other) is to be a tie -/
def spCheckT (c : WebC) (CH CT : Addr) : Sp := fun vs H Q E => ∃ (a : WebA) (rs : List (Int × Int)) (bs : List Bond) (ro : List Addr) (m : Nat) (i j : Int), vs = [.ref a.x, .int i, .int j] ∧ TW H c a rs bs ro m ∧ lowI i ∧ lowI j ∧ FirstX CH rs.length i j H E ∧
  (inH rs.length i → inH rs.length j → ¬ ((i, j) ∈ bs.map (·.1) ∨ (j, i) ∈ bs.map (·.1)) → TieX CT i j H E) ∧ ((i, j) ∈ bs.map (·.1) ∨ (j, i) ∈ bs.map (·.1) → ∀ H', Same H H' → Q .non H')
theorem FirstX.same {CH : Addr} {n : Nat} {i j : Int} {H H' : Hp} {E : XK} (h : FirstX CH n i j H E) (s : Same H H') : FirstX CH n i j H' E :=
  ⟨fun c d H2 nd s2 e => h.1 c d H2 (s.free nd) (s.trans s2) e, fun c c2 d H2 nd s2 e => h.2 c c2 d H2 (s.free nd) (s.trans s2) e⟩
theorem TieX.same {CT : Addr} {i j : Int} {H H' : Hp} {E : XK} (h : TieX CT i j H E) (s : Same H H') : TieX CT i j H' E := fun d H2 nd s2 e => h d H2 (s.free nd) (s.trans s2) e
theorem BareX.same {C : Addr} {wd : Str} {H H' : Hp} {E : XK} (h : BareX C wd H E) (s : Same H H') : BareX C wd H' E := fun d H2 nd s2 e => h d H2 (s.free nd) (s.trans s2) e
section
variable {P : Program} {w : World} {K : PySem.W.Frag} {mg : Str → Option Value} {base : Heap}
theorem scChecksX : FnScope ["self", "houses", "house"] ["self", "houses"] (defScope sW_checks) := ⟨rfl, rfl, rfl, by decide +kernel, rfl, by decide +kernel, by decide +kernel⟩
theorem ok_checksX {f fW fC CH : Addr} {c : WebC} {fd fdC : FuncData} {k : Nat} (F : Fun K "check_houses" "Web.check_houses" sW_checks f fd) (T : BT mg) (TW : ClsT K mg "Web" c.W fW webFs) (cX : CalX P w K mg base (k + 1) "check_house" fC fdC ["many", "house"] (spCheckX CH)) :
    FnOk P w K mg base (L2.CX P w) (k + 2) f fd ["self", "houses"] (spChecksX c CH) := by
  refine F.okX scChecksX (fun vs H Q E h => ?_) (fun cdv A outer s H vs Q E hr h => ?_)
  · obtain ⟨x, dx, hl, b, ml, bo, l, e, hs, i, j, rfl, _⟩ := h
    rfl
  · obtain ⟨x, dx, hl, b, ml, bo, l, e, hs, i, j, rfl, hx, hhl, hn, hll, li, lj, hX, kk⟩ := h
    refine ⟨_, pss_one (ps_for (passes_of rfl) rfl (pi_list (pv 1)) (pg_name (i := 2) scChecksX.nd rfl (Or.inl rfl)) (pss_one (ps_expr (pe_call cX.ok hr (by rfl) cX.g cX.kp cX.b .nil (passes_call (takes_of rfl rfl rfl rfl) (fun _ _ _ _ h => h)) (pa_cons (pe_callB call_len_seq (by rfl) T.len PySem.boot_len (pa_cons (pe_fld (pv 0) rfl) pa_nil)) (pa_cons (pv 2) pa_nil)))))), ?_⟩
    refine ⟨_, rfl, l, rfl, ⟨_, SqL.of hll⟩, for_list (K := K) (a := l) (xs := [.int i, .int j]) (fun t σ H' => (∃ y, σ = [some (.ref x), some (.ref l), y]) ∧ H' = H ∧ (1 ≤ t → inH hs.length i) ∧ (2 ≤ t → inH hs.length j)) ⟨⟨_, rfl⟩, rfl, (fun z => absurd z (by omega)), (fun z => absurd z (by omega))⟩ (fun t σ H' _ q => by rw [q.2.1]; exact SqL.of hll) ?_ ?_⟩
    · rintro t y σ H' ht ⟨⟨y2, rfl⟩, rfl, h1, h2⟩
      match t, ht with
      | 0, ht =>
        cases ht
        refine ⟨_, rfl, x, c.W, dx, _, .ref hl, rfl, hx, TW.cl, TW.na _ (by decide), rfl, hl, _, rfl, .inl (SqL.of hhl), _, rfl, hs.length, i, rfl, li, fun z => ⟨⟨_, rfl⟩, rfl, fun _ => z, fun q => absurd q (by omega)⟩, fun z => hX.1 z⟩
      | 1, ht =>
        cases ht
        have hi := h1 (by omega)
        refine ⟨_, rfl, x, c.W, dx, _, .ref hl, rfl, hx, TW.cl, TW.na _ (by decide), rfl, hl, _, rfl, .inl (SqL.of hhl), _, rfl, hs.length, j, rfl, lj, fun z => ⟨⟨_, rfl⟩, rfl, fun _ => hi, fun _ => z⟩, fun z => hX.2 hi z⟩
      | t + 2, ht => simp at ht
    · rintro σ H' ⟨⟨y2, rfl⟩, rfl, h1, h2⟩
      exact kk (h1 (by show 1 ≤ 2; decide)) (h2 (by show 2 ≤ 2; decide))
theorem scPair2 : FnScope ["one", "other"] ["one", "other"] (defScope sPair2) := ⟨rfl, rfl, rfl, by decide +kernel, rfl, by decide +kernel, by decide +kernel⟩
theorem ok_pair2 {f : Addr} {fd : FuncData} {k : Nat} (F : Fun K "sorted_pair" "sorted_pair" sPair2 f fd) (mMin : mg "min" = none) (mMax : mg "max" = none) : FnOk P w K mg base CX0 (k + 1) f fd ["one", "other"] spPair2 := by
  refine F.ok scPair2 (fun vs H Q E h => ?_) (fun cdv A outer s H vs Q E hr h => ?_)
  · obtain ⟨i, j, rfl, _⟩ := h
    rfl
  · obtain ⟨i, j, rfl, kk⟩ := h
    refine ⟨_, pss_one (ps_ret (pe_tup (pa_cons (pe_callB (call_min2 rfl) (by rfl) mMin (by decide +kernel) (pa_cons (pv 0) (pa_cons (pv 1) pa_nil))) (pa_cons (pe_callB (call_max2 rfl) (by rfl) mMax (by decide +kernel) (pa_cons (pv 0) (pa_cons (pv 1) pa_nil))) pa_nil)))), ?_⟩
    exact ⟨_, rfl, _, rfl, i, j, rfl, _, rfl, _, rfl, i, j, rfl, (by show 2 ≤ sizeLine; decide), fun p np => kk p np⟩
theorem scPrice : FnScope ["price"] ["price"] (defScope sPrice) := ⟨rfl, rfl, rfl, by decide +kernel, rfl, by decide +kernel, by decide +kernel⟩
theorem ok_price {f CP fP : Addr} {fd fdP : FuncData} {k : Nat} {tk : Tok} (F : Fun K "check_price" "check_price" sPrice f fd) (g9 : mg "MOST_PRICE" = some (.int 9 tk)) (N : ExcC P w K mg base k "BadPrice" CP fP fdP ["self"] (spIn0 K "badprice")) : FnOk P w K mg base (L2.CX P w) (k + 2) f fd ["price"] (spPrice CP) := by
  refine F.okX scPrice (fun vs H Q E h => ?_) (fun cdv A outer s H vs Q E hr h => ?_)
  · obtain ⟨i, rfl, _⟩ := h
    rfl
  · obtain ⟨i, rfl, kk, hX⟩ := h
    refine ⟨_, pss_one (ps_if (pt_not (pt_chain op_le op_le pe_int (pv 0) (pe_glob (v := .int 9) (by rfl) g9 ⟨_, rfl⟩))) (pss_one (ps_raise rfl (takes_of rfl rfl rfl rfl) (pmk_oex0 N.t.oex N.t.iC N.t.tI N.ok hr N.b pass0 (by rfl) N.t.g))) pss_nil), ?_⟩
    refine ⟨_, rfl, _, _, rfl, rfl, _, rfl, ?_⟩
    by_cases c1 : 1 ≤ i
    · refine ifT0 (decide_eq_true c1) ⟨_, _, rfl, rfl, _, rfl, ?_⟩
      by_cases c2 : i ≤ 9
      · exact ifF0 (by rw [decide_eq_true c2]; rfl) (kk ⟨c1, c2⟩)
      · exact ifT0 (by rw [decide_eq_false c2]; rfl) (raise0 N (hX (fun z => c2 z.2)))
    · exact ifF0 (decide_eq_false c1) ⟨_, rfl, iteT (raise0 N (hX (fun z => c1 z.1)))⟩
theorem scCheckT : FnScope ["self", "one", "other"] ["self", "one", "other"] (defScope sW_checkT) := ⟨rfl, rfl, rfl, by decide +kernel, rfl, by decide +kernel, by decide +kernel⟩
theorem ok_checkT {f fW fC CH CT fT : Addr} {c : WebC} {fd fdC fdT : FuncData} {k : Nat} (F : Fun K "check_tie" "Web.check_tie" sW_checkT f fd) (TC : ClsT K mg "Web" c.W fW webFs) (mC : Meth K c.W "check_houses" fC) (GC : FnOk P w K mg base (L2.CX P w) (k + 2) fC fdC ["self", "houses"] (spChecksX c CH)) (bC : Binds K fdC ["self", "houses"] [])
    (N : ExcC P w K mg base (k + 1) "NoTie" CT fT fdT ["self", "one", "other"] (spIn2 K "one" "other" "notie")) (f1 : PySem.W.findIn K (.ref CT) "one" = some none) (f2 : PySem.W.findIn K (.ref CT) "other" = some none) : FnOk P w K mg base (L2.CX P w) (k + 3) f fd ["self", "one", "other"] (spCheckT c CH CT) := by
  refine F.okX scCheckT (fun vs H Q E h => ?_) (fun cdv A outer s H vs Q E hr h => ?_)
  · obtain ⟨a, rs, bs, ro, m, i, j, rfl, _⟩ := h
    rfl
  · obtain ⟨a, rs, bs, ro, m, i, j, rfl, hW, li, lj, hX, hT, kk⟩ := h
    have hu := hu_of hr
    refine ⟨_, pss_cons (ps_expr (pe_meth (pv 0) TC.cl mC GC hr bC .nil (passes_call (takes_of rfl rfl rfl rfl) (fun _ _ _ _ h => h)) (pa_cons (pe_lst (pa_cons (pv 1) (pa_cons (pv 2) pa_nil))) pa_nil)))
      (pss_one (ps_if (pt_cmp (pc_dnotin hu (pe_tup (pa_cons (pv 1) (pa_cons (pv 2) pa_nil))) (pe_fld (pv 0) rfl))) (pss_one (ps_raise rfl (takes_of rfl rfl rfl rfl) (pmk_oex N.t.oex N.t.iC N.t.tI N.ok hr N.b .nil pass0 (by rfl) N.t.g (pa_cons (pv 1) (pa_cons (pv 2) pa_nil))))) pss_nil)), ?_⟩
    have lh : (a.hs.map fun h => V.ref h.x).length = rs.length := by rw [List.length_map]; exact hW.st.lh
    refine ⟨_, rfl, a.x, a.dx, _, rfl, hW.st.me, rfl, _, rfl, _, rfl, (by show 2 ≤ sizeLine; decide), fun l nl => ?_⟩
    have s1 := same_upd (o := .lst [.int i, .int j]) nl
    have hW1 := hW.same s1
    have hl1 := upd_same (H := H) (a := l) (o := .lst [.int i, .int j])
    generalize upd H l (.lst [.int i, .int j]) = H1 at *
    refine ⟨a.x, a.dx, a.hl, a.b, a.ml, a.bo, l, _, _, i, j, rfl, hW1.st.me, hW1.st.hl, by rw [lh]; have := hW.st.n8; omega, hl1, li, lj, by rw [lh]; exact hX.same s1, fun hi hj => ?_⟩
    rw [lh] at hi hj
    obtain ⟨mvs, hm1, _, hmk, _⟩ := hW1.ml
    refine ⟨_, rfl, _, rfl, (by show 2 ≤ sizeLine; decide), fun t nt => ?_⟩
    have s2 := same_upd (o := .tup [.int i, .int j]) nt
    have hW2 := hW1.same s2
    have ht2 := upd_same (H := H1) (a := t) (o := .tup [.int i, .int j])
    have hm2 := s2 _ _ hm1
    generalize upd H1 t (.tup [.int i, .int j]) = H2 at *
    have s12 : Same H H2 := s1.trans s2
    refine ⟨_, rfl, a.x, c.W, a.dx, _, .ref a.ml, rfl, hW2.st.me, TC.cl, TC.na _ (by decide), rfl, a.ml, _, rfl, DGet.t (k := kp (i, j)) hm2 ht2, _, rfl, ?_⟩
    by_cases hk : (i, j) ∈ bs.map (·.1) ∨ (j, i) ∈ bs.map (·.1)
    · obtain ⟨v, hv⟩ := (hmk (i, j)).mpr hk
      rw [hv]
      exact iteF (kk hk H2 s12)
    · have hv : valV mvs (kp (i, j)) = none := by
        cases e : valV mvs (kp (i, j)) with
        | none => rfl
        | some v => exact absurd ((hmk (i, j)).mp ⟨v, e⟩) hk
      rw [hv]
      refine iteT (raise2 N f1 f2 li lj (fun Q q => ⟨_, rfl, _, rfl, q⟩) ((hT hi hj hk).same s12))
end
end K


/-! ties by their pairs: looked up, set, added, taken away -/
namespace K
open PySem PySem.Spec PyProof.Rows L2 SwD
def srt (i j : Int) : Int × Int := (if j < i then j else i, if j > i then j else i)
def bget (bs : List Bond) (k : Int × Int) : Option (Int × Bool) := (bs.find? fun e => decide (e.1 = k)).map (·.2)
def setB (bs : List Bond) (k : Int × Int) (v : Int × Bool) : List Bond := bs.map fun e => if e.1 = k then (e.1, v) else e
def delB (bs : List Bond) (k : Int × Int) : List Bond := bs.filter fun e => decide (e.1 ≠ k)
theorem kp_inj {a b : Int × Int} (h : kp a = kp b) : a = b := by
  unfold kp at h
  injection h with h1 h2
  injection h2 with h2 _
  injection h1 with h1
  injection h2 with h2
  exact Prod.ext h1 h2
theorem kp_dec (a b : Int × Int) : decide (kp a = kp b) = decide (a = b) := by
  by_cases h : a = b
  · rw [h, decide_eq_true rfl, decide_eq_true rfl]
  · rw [decide_eq_false h, decide_eq_false (fun z => h (kp_inj z))]
section
variable {H : Hp} {kvs : List (List Key × V)} {bs : List Bond} {k : Int × Int}
theorem bond_get (h : Paired (BondAt H) kvs bs) : (bget bs k = none → valV kvs (kp k) = none) ∧ ∀ v, bget bs k = some v → ∃ t, valV kvs (kp k) = some (.ref t) ∧ H t = some (.tup [.int v.1, .bl v.2]) := by
  unfold bget valV
  induction h with
  | nil => exact ⟨fun _ => rfl, fun v e => by cases e⟩
  | @cons kv e kvs bs q _ ih =>
    obtain ⟨e1, t, e2, ht⟩ := q
    simp only [List.find?_cons, e1, kp_dec]
    by_cases c : e.1 = k
    · rw [decide_eq_true c]
      refine ⟨(fun z => by cases z), fun v z => ?_⟩
      cases z
      exact ⟨t, by rw [Option.map_some, e2], ht⟩
    · rw [decide_eq_false c]
      exact ih
theorem bget_some : (∃ v, bget bs k = some v) ↔ k ∈ bs.map (·.1) := by
  unfold bget
  induction bs with
  | nil => simp
  | cons e bs ih =>
    simp only [List.find?_cons, List.map_cons, List.mem_cons]
    by_cases c : e.1 = k
    · rw [decide_eq_true c]
      exact ⟨fun _ => .inl c.symm, fun _ => ⟨_, rfl⟩⟩
    · rw [decide_eq_false c]
      rw [ih]
      exact ⟨.inr, fun z => z.elim (fun z => absurd z.symm c) id⟩
theorem setB_keys (v : Int × Bool) : (setB bs k v).map (·.1) = bs.map (·.1) := by
  unfold setB
  rw [List.map_map]
  refine List.map_congr_left fun e _ => ?_
  show (if e.1 = k then (e.1, v) else e).1 = e.1
  by_cases c : e.1 = k
  · rw [if_pos c]
  · rw [if_neg c]
theorem bond_set {t : Addr} {v : Int × Bool} (h : Paired (BondAt H) kvs bs) (ht : H t = some (.tup [.int v.1, .bl v.2])) : Paired (BondAt H) (kvs.map fun kv => if kv.1 = kp k then (kv.1, V.ref t) else kv) (setB bs k v) := by
  unfold setB
  induction h with
  | nil => exact .nil
  | @cons kv e kvs bs q _ ih =>
    obtain ⟨e1, t0, e2, h0⟩ := q
    refine .cons ?_ ih
    show BondAt H (if kv.1 = kp k then (kv.1, V.ref t) else kv) (if e.1 = k then (e.1, v) else e)
    by_cases c : e.1 = k
    · rw [if_pos c, if_pos (by rw [e1, c])]
      exact ⟨e1, t, rfl, ht⟩
    · rw [if_neg c, if_neg (fun z => c (kp_inj (e1.symm.trans z)))]
      exact ⟨e1, t0, e2, h0⟩
theorem bond_put {t : Addr} {v : Int × Bool} (h : Paired (BondAt H) kvs bs) (hk : k ∈ bs.map (·.1)) (ht : H t = some (.tup [.int v.1, .bl v.2])) : Paired (BondAt H) (putK kvs (kp k) (.ref t)) (setB bs k v) := by
  unfold putK
  rw [if_pos ?_]
  · exact bond_set h ht
  · obtain ⟨u, hu⟩ := bget_some.mpr hk
    obtain ⟨t0, h1, _⟩ := (bond_get (k := k) h).2 u hu
    unfold valV at h1
    obtain ⟨e, h2, _⟩ := Option.map_eq_some_iff.mp h1
    exact List.any_eq_true.mpr ⟨e, List.mem_of_find?_eq_some h2, (by have := List.find?_some h2; exact this)⟩
theorem bond_new {t : Addr} {v : Int × Bool} (h : Paired (BondAt H) kvs bs) (hk : k ∉ bs.map (·.1)) (ht : H t = some (.tup [.int v.1, .bl v.2])) : Paired (BondAt H) (putK kvs (kp k) (.ref t)) (bs ++ [(k, v)]) := by
  rw [putK_new]
  · exact paired_append h (.cons ⟨rfl, t, rfl, ht⟩ .nil)
  · refine (bond_get (k := k) h).1 ?_
    cases e : bget bs k with
    | none => rfl
    | some u => exact absurd (bget_some.mp ⟨u, e⟩) hk
theorem bond_del (h : Paired (BondAt H) kvs bs) : Paired (BondAt H) (dropK kvs (kp k)) (delB bs k) := by
  unfold dropK delB
  induction h with
  | nil => exact .nil
  | @cons kv e kvs bs q _ ih =>
    obtain ⟨e1, t0, e2, h0⟩ := q
    by_cases c : e.1 = k
    · rw [List.filter_cons_of_neg (by simp [e1, c]), List.filter_cons_of_neg (by simp [c])]
      exact ih
    · rw [List.filter_cons_of_pos (by simpa [e1] using fun z => c (kp_inj z)), List.filter_cons_of_pos (by simpa using c)]
      exact .cons ⟨e1, t0, e2, h0⟩ ih
end
theorem srt_in {bs : List Bond} {n : Nat} {i j : Int} (ok : ∀ e ∈ bs, 0 ≤ e.1.1 ∧ e.1.1 < e.1.2 ∧ e.1.2 < (n : Int)) : ((i, j) ∈ bs.map (·.1) ∨ (j, i) ∈ bs.map (·.1)) ↔ srt i j ∈ bs.map (·.1) := by
  have lt : ∀ {a b : Int}, (a, b) ∈ bs.map (·.1) → a < b := fun {a b} m => by
    obtain ⟨e, me, z⟩ := List.mem_map.mp m
    have := ok e me
    rw [z] at this
    exact this.2.1
  unfold srt
  constructor
  · rintro (m | m)
    · have := lt m
      rw [if_neg (by omega), if_pos (by omega)]
      exact m
    · have := lt m
      rw [if_pos this, if_neg (by omega)]
      exact m
  · intro m
    by_cases c : j < i
    · rw [if_pos c, if_neg (by omega)] at m
      exact .inr m
    · by_cases c2 : j > i
      · rw [if_neg c, if_pos c2] at m
        exact .inl m
      · have := lt m
        rw [if_neg c, if_neg c2] at this
        exact absurd this (Int.lt_irrefl _)
/-- a tie has another price or is broken or mended -/
theorem TW.setB {H : Hp} {c : WebC} {a : WebA} {rs : List (Int × Int)} {bs : List Bond} {ro : List Addr} {m : Nat} {kvs : List (List Key × V)} {k : Int × Int} {v : Int × Bool} (t : TW H c a rs bs ro m) (hp : Paired (BondAt H) kvs (K.setB bs k v)) : TW (upd H a.b (.dT kvs)) c a rs (K.setB bs k v) ro m := by
  refine t.putB hp (by rw [setB_keys]; exact t.nd) (fun e me => ?_) (by unfold K.setB; rw [List.length_map]; exact t.few) (fun k' => by rw [setB_keys])
  have : e.1 ∈ (K.setB bs k v).map (·.1) := List.mem_map.mpr ⟨e, me, rfl⟩
  rw [setB_keys] at this
  obtain ⟨e', me', z⟩ := List.mem_map.mp this
  have q := t.ok e' me'
  rw [z] at q
  exact q
end K

namespace K
open PySem PySem.Spec PyProof.Rows L2 SwD
abbrev sW_snap : Stmt := inClass (top 62) 9
abbrev sW_mend : Stmt := inClass (top 62) 10
abbrev sW_charge : Stmt := inClass (top 62) 11
/-- the refusals that all deeds on a tie share -/
structure TieR (c : WebC) (CH CT : Addr) (H : Hp) (a : WebA) (rs : List (Int × Int)) (bs : List Bond) (ro : List Addr) (m : Nat) (i j : Int) (E : XK) : Prop where
  web : TW H c a rs bs ro m
  li : lowI i
  lj : lowI j
  first : FirstX CH rs.length i j H E
  tie : inH rs.length i → inH rs.length j → bget bs (srt i j) = none → TieX CT i j H E
theorem TieR.tieN {c : WebC} {CH CT : Addr} {H : Hp} {a : WebA} {rs : List (Int × Int)} {bs : List Bond} {ro : List Addr} {m : Nat} {i j : Int} {E : XK} (R : TieR c CH CT H a rs bs ro m i j E) : inH rs.length i → inH rs.length j → ¬ ((i, j) ∈ bs.map (·.1) ∨ (j, i) ∈ bs.map (·.1)) → TieX CT i j H E := fun hi hj hn => R.tie hi hj (by
  cases e : bget bs (srt i j) with
  | none => rfl
  | some v => exact absurd ((srt_in R.web.ok).mpr (bget_some.mp ⟨v, e⟩)) hn)
theorem TieR.tieS {c : WebC} {CH CT : Addr} {H : Hp} {a : WebA} {rs : List (Int × Int)} {bs : List Bond} {ro : List Addr} {m : Nat} {i j : Int} {E : XK} (R : TieR c CH CT H a rs bs ro m i j E) (hk : (i, j) ∈ bs.map (·.1) ∨ (j, i) ∈ bs.map (·.1)) : ∃ v, bget bs (srt i j) = some v := bget_some.mpr ((srt_in R.web.ok).mp hk)
def spFlip (c : WebC) (CH CT CB : Addr) (wd : Str) (old : Bool) : Sp := fun vs H Q E => ∃ (a : WebA) (rs : List (Int × Int)) (bs : List Bond) (ro : List Addr) (m : Nat) (i j : Int), vs = [.ref a.x, .int i, .int j] ∧ TieR c CH CT H a rs bs ro m i j E ∧
  (∀ p, bget bs (srt i j) = some (p, !old) → BareX CB wd H E) ∧ ∀ p, bget bs (srt i j) = some (p, old) → ∀ H', Off [a.b] H H' → TW H' c a rs (setB bs (srt i j) (p, !old)) ro m → Q .non H'
def spCharge (c : WebC) (CH CT CP : Addr) : Sp := fun vs H Q E => ∃ (a : WebA) (rs : List (Int × Int)) (bs : List Bond) (ro : List Addr) (m : Nat) (i j p : Int), vs = [.ref a.x, .int i, .int j, .int p] ∧ TieR c CH CT H a rs bs ro m i j E ∧
  (∀ v, bget bs (srt i j) = some v → ¬ (1 ≤ p ∧ p ≤ 9) → BareX CP "badprice" H E) ∧ ∀ q w, bget bs (srt i j) = some (q, w) → (1 ≤ p ∧ p ≤ 9) → ∀ H', Off [a.b] H H' → TW H' c a rs (setB bs (srt i j) (p, w)) ro m → Q .non H'
section
variable {P : Program} {w : World} {K : PySem.W.Frag} {mg : Str → Option Value} {base : Heap}
theorem scSnap : FnScope ["self", "one", "other", "price", "whole"] ["self", "one", "other"] (defScope sW_snap) := ⟨rfl, rfl, rfl, by decide +kernel, rfl, by decide +kernel, by decide +kernel⟩
theorem scMend : FnScope ["self", "one", "other", "price", "whole"] ["self", "one", "other"] (defScope sW_mend) := ⟨rfl, rfl, rfl, by decide +kernel, rfl, by decide +kernel, by decide +kernel⟩
theorem ok_snap {f fW fC CH CT CB fB fP : Addr} {c : WebC} {fd fdC fdB fdP : FuncData} {k : Nat} (F : Fun K "snap" "Web.snap" sW_snap f fd) (TC : ClsT K mg "Web" c.W fW webFs) (mC : Meth K c.W "check_tie" fC) (GC : FnOk P w K mg base (L2.CX P w) (k + 2) fC fdC ["self", "one", "other"] (spCheckT c CH CT)) (bC : Binds K fdC ["self", "one", "other"] [])
    (cP : Cal P w K mg base (k + 2) "sorted_pair" fP fdP ["one", "other"] spPair2) (N : ExcC P w K mg base (k + 1) "Broken" CB fB fdB ["self"] (spIn0 K "broken")) : FnOk P w K mg base (L2.CX P w) (k + 3) f fd ["self", "one", "other"] (spFlip c CH CT CB "broken" true) := by
  refine F.okX scSnap (fun vs H Q E h => ?_) (fun cdv A outer s H vs Q E hr h => ?_)
  · obtain ⟨a, rs, bs, ro, m, i, j, rfl, _⟩ := h
    rfl
  · obtain ⟨a, rs, bs, ro, m, i, j, rfl, R, hB, kk⟩ := h
    have hu := hu_of hr
    refine ⟨_, pss_cons (ps_expr (pe_meth (pv 0) TC.cl mC GC hr bC .nil (passes_call (takes_of rfl rfl rfl rfl) (fun _ _ _ _ h => h)) (pa_cons (pv 1) (pa_cons (pv 2) pa_nil))))
      (pss_cons (ps_asg (pe_dget hu (pe_fld (pv 0) rfl) (pe_call cP.ok hr (by rfl) cP.g cP.kp cP.b .nil pass0 (pa_cons (pv 1) (pa_cons (pv 2) pa_nil))) (fun _ _ => rfl)) (pg_tup rfl (pgs_cons (pg_name (i := 3) scSnap.nd rfl (Or.inl rfl)) (pgs_cons (pg_name (i := 4) scSnap.nd rfl (Or.inl rfl)) pgs_nil))))
      (pss_cons (ps_if (pt_not (pt_val (pv 4))) (pss_one (ps_raise rfl (takes_of rfl rfl rfl rfl) (pmk_oex0 N.t.oex N.t.iC N.t.tI N.ok hr N.b pass0 (by rfl) N.t.g))) pss_nil)
      (pss_one (ps_dput hu (pe_fld (pv 0) rfl) (pe_call cP.ok hr (by rfl) cP.g cP.kp cP.b .nil pass0 (pa_cons (pv 1) (pa_cons (pv 2) pa_nil))) (pe_tup (pa_cons (pv 3) (pa_cons pe_bl pa_nil))) rfl)))), ?_⟩
    refine ⟨_, rfl, a.x, a.dx, _, rfl, R.web.st.me, rfl, _, rfl, _, rfl, a, rs, bs, ro, m, i, j, rfl, R.web, R.li, R.lj, R.first, R.tieN, fun hk H1 s1 => ?_⟩
    obtain ⟨v, hv⟩ := R.tieS hk
    have W1 := R.web.same s1
    refine ⟨_, rfl, a.x, c.W, a.dx, _, .ref a.b, rfl, W1.st.me, TC.cl, TC.na _ (by decide), rfl, _, rfl, _, rfl, i, j, rfl, fun t nt => ?_⟩
    have s2 := same_upd (o := .tup [.int (srt i j).1, .int (srt i j).2]) nt
    have ht := upd_same (H := H1) (a := t) (o := .tup [.int (srt i j).1, .int (srt i j).2])
    have W2 := W1.same s2
    show ∃ _, _
    generalize hH2 : upd H1 t (.tup [.int (srt i j).1, .int (srt i j).2]) = H2 at *
    have hH2' : upd H1 t (.tup [.int (if j < i then j else i), .int (if j > i then j else i)]) = H2 := hH2
    rw [hH2']
    obtain ⟨kvs, hb2, hp2⟩ := W2.b
    obtain ⟨tv, hv1, htv⟩ := (bond_get (k := srt i j) hp2).2 v hv
    refine ⟨a.b, .ref tv, rfl, .inr ⟨kvs, kp (srt i j), t, .inl hb2, rfl, ht, hv1.symm⟩, ?_⟩
    refine ⟨tv, _, rfl, SqT.of htv, rfl, _, _, rfl, _, _, rfl, rfl, ?_⟩
    obtain ⟨p, old⟩ := v
    have s12 : Same H H2 := s1.trans s2
    refine ⟨_, rfl, _, rfl, ?_⟩
    cases old with
    | false => exact iteT (raise0 N ((hB p hv).same s12))
    | true =>
      refine iteF ?_
      refine ⟨_, rfl, (by show 2 ≤ sizeLine; decide), fun t2 nt2 => ?_⟩
      have s3 := same_upd (o := .tup [.int p, .bl false]) nt2
      have ht2 := upd_same (H := H2) (a := t2) (o := .tup [.int p, .bl false])
      have W3 := W2.same s3
      generalize upd H2 t2 (.tup [.int p, .bl false]) = H3 at *
      refine ⟨_, rfl, a.x, c.W, a.dx, _, .ref a.b, rfl, W3.st.me, TC.cl, TC.na _ (by decide), rfl, _, rfl, _, rfl, i, j, rfl, fun t3 nt3 => ?_⟩
      have s4 := same_upd (o := .tup [.int (srt i j).1, .int (srt i j).2]) nt3
      have ht3 := upd_same (H := H3) (a := t3) (o := .tup [.int (srt i j).1, .int (srt i j).2])
      have W4 := W3.same s4
      generalize hH4 : upd H3 t3 (.tup [.int (srt i j).1, .int (srt i j).2]) = H4 at *
      have hH4' : upd H3 t3 (.tup [.int (if j < i then j else i), .int (if j > i then j else i)]) = H4 := hH4
      rw [hH4']
      obtain ⟨kvs4, hb4, hp4⟩ := W4.b
      have sAll : Same H H4 := s12.trans (s3.trans s4)
      refine ⟨a.b, _, rfl, .inr ⟨kvs4, kp (srt i j), t3, hb4, rfl, ht3, ?_, rfl⟩, kk p hv _ (Off.put fun b u e _ => sAll _ _ e) (W4.setB (bond_put hp4 (bget_some.mp ⟨_, hv⟩) (s4 _ _ ht2)))⟩
      rw [paired_len hp4]
      exact small1000 (by have := W4.few; omega)

theorem ok_mend {f fW fC CH CT CB fB fP : Addr} {c : WebC} {fd fdC fdB fdP : FuncData} {k : Nat} (F : Fun K "mend" "Web.mend" sW_mend f fd) (TC : ClsT K mg "Web" c.W fW webFs) (mC : Meth K c.W "check_tie" fC) (GC : FnOk P w K mg base (L2.CX P w) (k + 2) fC fdC ["self", "one", "other"] (spCheckT c CH CT)) (bC : Binds K fdC ["self", "one", "other"] [])
    (cP : Cal P w K mg base (k + 2) "sorted_pair" fP fdP ["one", "other"] spPair2) (N : ExcC P w K mg base (k + 1) "Whole" CB fB fdB ["self"] (spIn0 K "whole")) : FnOk P w K mg base (L2.CX P w) (k + 3) f fd ["self", "one", "other"] (spFlip c CH CT CB "whole" false) := by
  refine F.okX scMend (fun vs H Q E h => ?_) (fun cdv A outer s H vs Q E hr h => ?_)
  · obtain ⟨a, rs, bs, ro, m, i, j, rfl, _⟩ := h
    rfl
  · obtain ⟨a, rs, bs, ro, m, i, j, rfl, R, hB, kk⟩ := h
    have hu := hu_of hr
    refine ⟨_, pss_cons (ps_expr (pe_meth (pv 0) TC.cl mC GC hr bC .nil (passes_call (takes_of rfl rfl rfl rfl) (fun _ _ _ _ h => h)) (pa_cons (pv 1) (pa_cons (pv 2) pa_nil))))
      (pss_cons (ps_asg (pe_dget hu (pe_fld (pv 0) rfl) (pe_call cP.ok hr (by rfl) cP.g cP.kp cP.b .nil pass0 (pa_cons (pv 1) (pa_cons (pv 2) pa_nil))) (fun _ _ => rfl)) (pg_tup rfl (pgs_cons (pg_name (i := 3) scMend.nd rfl (Or.inl rfl)) (pgs_cons (pg_name (i := 4) scMend.nd rfl (Or.inl rfl)) pgs_nil))))
      (pss_cons (ps_if (pt_val (pv 4)) (pss_one (ps_raise rfl (takes_of rfl rfl rfl rfl) (pmk_oex0 N.t.oex N.t.iC N.t.tI N.ok hr N.b pass0 (by rfl) N.t.g))) pss_nil)
      (pss_one (ps_dput hu (pe_fld (pv 0) rfl) (pe_call cP.ok hr (by rfl) cP.g cP.kp cP.b .nil pass0 (pa_cons (pv 1) (pa_cons (pv 2) pa_nil))) (pe_tup (pa_cons (pv 3) (pa_cons pe_bl pa_nil))) rfl)))), ?_⟩
    refine ⟨_, rfl, a.x, a.dx, _, rfl, R.web.st.me, rfl, _, rfl, _, rfl, a, rs, bs, ro, m, i, j, rfl, R.web, R.li, R.lj, R.first, R.tieN, fun hk H1 s1 => ?_⟩
    obtain ⟨v, hv⟩ := R.tieS hk
    have W1 := R.web.same s1
    refine ⟨_, rfl, a.x, c.W, a.dx, _, .ref a.b, rfl, W1.st.me, TC.cl, TC.na _ (by decide), rfl, _, rfl, _, rfl, i, j, rfl, fun t nt => ?_⟩
    have s2 := same_upd (o := .tup [.int (srt i j).1, .int (srt i j).2]) nt
    have ht := upd_same (H := H1) (a := t) (o := .tup [.int (srt i j).1, .int (srt i j).2])
    have W2 := W1.same s2
    show ∃ _, _
    generalize hH2 : upd H1 t (.tup [.int (srt i j).1, .int (srt i j).2]) = H2 at *
    have hH2' : upd H1 t (.tup [.int (if j < i then j else i), .int (if j > i then j else i)]) = H2 := hH2
    rw [hH2']
    obtain ⟨kvs, hb2, hp2⟩ := W2.b
    obtain ⟨tv, hv1, htv⟩ := (bond_get (k := srt i j) hp2).2 v hv
    refine ⟨a.b, .ref tv, rfl, .inr ⟨kvs, kp (srt i j), t, .inl hb2, rfl, ht, hv1.symm⟩, ?_⟩
    refine ⟨tv, _, rfl, SqT.of htv, rfl, _, _, rfl, _, _, rfl, rfl, ?_⟩
    obtain ⟨p, old⟩ := v
    have s12 : Same H H2 := s1.trans s2
    refine ⟨_, rfl, _, rfl, ?_⟩
    cases old with
    | true => exact iteT (raise0 N ((hB p hv).same s12))
    | false =>
      refine iteF ?_
      refine ⟨_, rfl, (by show 2 ≤ sizeLine; decide), fun t2 nt2 => ?_⟩
      have s3 := same_upd (o := .tup [.int p, .bl true]) nt2
      have ht2 := upd_same (H := H2) (a := t2) (o := .tup [.int p, .bl true])
      have W3 := W2.same s3
      generalize upd H2 t2 (.tup [.int p, .bl true]) = H3 at *
      refine ⟨_, rfl, a.x, c.W, a.dx, _, .ref a.b, rfl, W3.st.me, TC.cl, TC.na _ (by decide), rfl, _, rfl, _, rfl, i, j, rfl, fun t3 nt3 => ?_⟩
      have s4 := same_upd (o := .tup [.int (srt i j).1, .int (srt i j).2]) nt3
      have ht3 := upd_same (H := H3) (a := t3) (o := .tup [.int (srt i j).1, .int (srt i j).2])
      have W4 := W3.same s4
      generalize hH4 : upd H3 t3 (.tup [.int (srt i j).1, .int (srt i j).2]) = H4 at *
      have hH4' : upd H3 t3 (.tup [.int (if j < i then j else i), .int (if j > i then j else i)]) = H4 := hH4
      rw [hH4']
      obtain ⟨kvs4, hb4, hp4⟩ := W4.b
      have sAll : Same H H4 := s12.trans (s3.trans s4)
      refine ⟨a.b, _, rfl, .inr ⟨kvs4, kp (srt i j), t3, hb4, rfl, ht3, ?_, rfl⟩, kk p hv _ (Off.put fun b u e _ => sAll _ _ e) (W4.setB (bond_put hp4 (bget_some.mp ⟨_, hv⟩) (s4 _ _ ht2)))⟩
      rw [paired_len hp4]
      exact small1000 (by have := W4.few; omega)

end
end K


namespace K
open PySem PySem.Spec PyProof.Rows L2 SwD
abbrev sPutL : Stmt := top 4
abbrev sLiveSlip : Stmt := inClass (top 56) 1
abbrev sTellS : Stmt := top 46
section
variable {P : Program} {w : World} {K : PySem.W.Frag} {mg : Str → Option Value} {base : Heap}
theorem scCharge : FnScope ["self", "one", "other", "price", "elder", "whole"] ["self", "one", "other", "price"] (defScope sW_charge) := ⟨rfl, rfl, rfl, by decide +kernel, rfl, by decide +kernel, by decide +kernel⟩
theorem ok_charge {f fW fC CH CT CP fP fQ : Addr} {c : WebC} {fd fdC fdP fdQ : FuncData} {k : Nat} (F : Fun K "charge" "Web.charge" sW_charge f fd) (TC : ClsT K mg "Web" c.W fW webFs) (mC : Meth K c.W "check_tie" fC) (GC : FnOk P w K mg base (L2.CX P w) (k + 2) fC fdC ["self", "one", "other"] (spCheckT c CH CT)) (bC : Binds K fdC ["self", "one", "other"] [])
    (cP : Cal P w K mg base (k + 2) "sorted_pair" fP fdP ["one", "other"] spPair2) (cQ : CalX P w K mg base (k + 2) "check_price" fQ fdQ ["price"] (spPrice CP)) : FnOk P w K mg base (L2.CX P w) (k + 3) f fd ["self", "one", "other", "price"] (spCharge c CH CT CP) := by
  refine F.okX scCharge (fun vs H Q E h => ?_) (fun cdv A outer s H vs Q E hr h => ?_)
  · obtain ⟨a, rs, bs, ro, m, i, j, p, rfl, _⟩ := h
    rfl
  · obtain ⟨a, rs, bs, ro, m, i, j, p, rfl, R, hB, kk⟩ := h
    have hu := hu_of hr
    refine ⟨_, pss_cons (ps_expr (pe_meth (pv 0) TC.cl mC GC hr bC .nil (passes_call (takes_of rfl rfl rfl rfl) (fun _ _ _ _ h => h)) (pa_cons (pv 1) (pa_cons (pv 2) pa_nil))))
      (pss_cons (ps_expr (pe_call cQ.ok hr (by rfl) cQ.g cQ.kp cQ.b .nil (passes_call (takes_of rfl rfl rfl rfl) (fun _ _ _ _ h => h)) (pa_cons (pv 3) pa_nil)))
      (pss_cons (ps_asg (pe_dget hu (pe_fld (pv 0) rfl) (pe_call cP.ok hr (by rfl) cP.g cP.kp cP.b .nil pass0 (pa_cons (pv 1) (pa_cons (pv 2) pa_nil))) (fun _ _ => rfl)) (pg_tup rfl (pgs_cons (pg_name (i := 4) scCharge.nd rfl (Or.inl rfl)) (pgs_cons (pg_name (i := 5) scCharge.nd rfl (Or.inl rfl)) pgs_nil))))
      (pss_one (ps_dput hu (pe_fld (pv 0) rfl) (pe_call cP.ok hr (by rfl) cP.g cP.kp cP.b .nil pass0 (pa_cons (pv 1) (pa_cons (pv 2) pa_nil))) (pe_tup (pa_cons (pv 3) (pa_cons (pv 5) pa_nil))) rfl)))), ?_⟩
    refine ⟨_, rfl, a.x, a.dx, _, rfl, R.web.st.me, rfl, _, rfl, _, rfl, a, rs, bs, ro, m, i, j, rfl, R.web, R.li, R.lj, R.first, R.tieN, fun hk H1 s1 => ?_⟩
    obtain ⟨v, hv⟩ := R.tieS hk
    have W1 := R.web.same s1
    refine ⟨_, rfl, p, rfl, fun hp => ?_, fun hp => (hB v hv hp).same s1⟩
    refine ⟨_, rfl, a.x, c.W, a.dx, _, .ref a.b, rfl, W1.st.me, TC.cl, TC.na _ (by decide), rfl, _, rfl, _, rfl, i, j, rfl, fun t nt => ?_⟩
    have s2 := same_upd (o := .tup [.int (srt i j).1, .int (srt i j).2]) nt
    have ht := upd_same (H := H1) (a := t) (o := .tup [.int (srt i j).1, .int (srt i j).2])
    have W2 := W1.same s2
    show ∃ _, _
    generalize hH2 : upd H1 t (.tup [.int (srt i j).1, .int (srt i j).2]) = H2 at *
    have hH2' : upd H1 t (.tup [.int (if j < i then j else i), .int (if j > i then j else i)]) = H2 := hH2
    rw [hH2']
    obtain ⟨kvs, hb2, hp2⟩ := W2.b
    obtain ⟨tv, hv1, htv⟩ := (bond_get (k := srt i j) hp2).2 v hv
    refine ⟨a.b, .ref tv, rfl, .inr ⟨kvs, kp (srt i j), t, .inl hb2, rfl, ht, hv1.symm⟩, ?_⟩
    refine ⟨tv, _, rfl, SqT.of htv, rfl, _, _, rfl, _, _, rfl, rfl, ?_⟩
    obtain ⟨p0, wh⟩ := v
    have s12 : Same H H2 := s1.trans s2
    refine ⟨_, rfl, _, rfl, (by show 2 ≤ sizeLine; decide), fun t2 nt2 => ?_⟩
    have s3 := same_upd (o := .tup [.int p, .bl wh]) nt2
    have ht2 := upd_same (H := H2) (a := t2) (o := .tup [.int p, .bl wh])
    have W3 := W2.same s3
    generalize upd H2 t2 (.tup [.int p, .bl wh]) = H3 at *
    refine ⟨_, rfl, a.x, c.W, a.dx, _, .ref a.b, rfl, W3.st.me, TC.cl, TC.na _ (by decide), rfl, _, rfl, _, rfl, i, j, rfl, fun t3 nt3 => ?_⟩
    have s4 := same_upd (o := .tup [.int (srt i j).1, .int (srt i j).2]) nt3
    have ht3 := upd_same (H := H3) (a := t3) (o := .tup [.int (srt i j).1, .int (srt i j).2])
    have W4 := W3.same s4
    generalize hH4 : upd H3 t3 (.tup [.int (srt i j).1, .int (srt i j).2]) = H4 at *
    have hH4' : upd H3 t3 (.tup [.int (if j < i then j else i), .int (if j > i then j else i)]) = H4 := hH4
    rw [hH4']
    obtain ⟨kvs4, hb4, hp4⟩ := W4.b
    have sAll : Same H H4 := s12.trans (s3.trans s4)
    refine ⟨a.b, _, rfl, .inr ⟨kvs4, kp (srt i j), t3, hb4, rfl, ht3, ?_, rfl⟩, kk p0 wh hv hp _ (Off.put fun b u e _ => sAll _ _ e) (W4.setB (bond_put hp4 (bget_some.mp ⟨_, hv⟩) (s4 _ _ ht2)))⟩
    rw [paired_len hp4]
    exact small1000 (by have := W4.few; omega)
/-- web.mail[(home.name, other)].append(letter) -/
def spPutL (c : WebC) : Sp := fun vs H Q _ => ∃ (x dx hl b ml bo hx hdx nu sg wt st nw qu r : Addr) (e nm o : Int) (lt : V) (mvs : List (List Key × V)) (ls : List V), vs = [.ref x, .ref hx, .int o, lt] ∧ H x = some (.ins c.W dx (webF hl b ml bo e)) ∧ H hx = some (.ins c.H hdx (homeF nm nu sg wt st nw qu)) ∧
  H ml = some (.dT mvs) ∧ valV mvs (kp (nm, o)) = some (.ref r) ∧ H r = some (.lst ls) ∧ ls.length ≤ 900 ∧ ∀ H', Off [r] H H' → H' r = some (.lst (ls ++ [lt])) → Q .non H'
theorem scPutL : FnScope ["web", "home", "other", "letter"] ["web", "home", "other", "letter"] (defScope sPutL) := ⟨rfl, rfl, rfl, by decide +kernel, rfl, by decide +kernel, by decide +kernel⟩
theorem ok_putL {f fW fH : Addr} {c : WebC} {fd : FuncData} {k : Nat} (F : Fun K "put_letter" "put_letter" sPutL f fd) (TC : ClsT K mg "Web" c.W fW webFs) (TH : ClsT K mg "House" c.H fH homeFs) : FnOk P w K mg base CX0 (k + 1) f fd ["web", "home", "other", "letter"] (spPutL c) := by
  refine F.ok scPutL (fun vs H Q E h => ?_) (fun cdv A outer s H vs Q E hr h => ?_)
  · obtain ⟨x, dx, hl, b, ml, bo, hx, hdx, nu, sg, wt, st, nw, qu, r, e, nm, o, lt, mvs, ls, rfl, _⟩ := h
    rfl
  · obtain ⟨x, dx, hl, b, ml, bo, hx, hdx, nu, sg, wt, st, nw, qu, r, e, nm, o, lt, mvs, ls, rfl, h1, h2, h3, h4, h5, h6, kk⟩ := h
    have hu := hu_of hr
    refine ⟨_, pss_one (ps_expr (pe_bm PySem.F.plainAttrs_list PySem.F.slot_list_append PySem.F.type_list_append mt_append (pe_dget hu (pe_fld (pv 0) rfl) (pe_tup (pa_cons (pe_fld (pv 1) rfl) (pa_cons (pv 2) pa_nil))) (fun _ _ => rfl)) (pa_cons (pv 3) pa_nil))), ?_⟩
    refine ⟨_, rfl, x, c.W, dx, _, .ref ml, rfl, h1, TC.cl, TC.na _ (by decide), rfl, _, rfl, hx, c.H, hdx, _, .int nm, rfl, h2, TH.cl, TH.na _ (by decide), rfl, _, rfl, (by show 2 ≤ sizeLine; decide), fun t nt => ?_⟩
    have s1 := same_upd (o := .tup [.int nm, .int o]) nt
    have ht := upd_same (H := H) (a := t) (o := .tup [.int nm, .int o])
    generalize upd H t (.tup [.int nm, .int o]) = H1 at *
    refine ⟨ml, .ref r, rfl, .inr ⟨mvs, kp (nm, o), t, .inl (s1 _ _ h3), rfl, ht, h4.symm⟩, .inl ⟨rfl, _, SqL.of (s1 _ _ h5)⟩, _, rfl, r, ls, lt, rfl, rfl, s1 _ _ h5, small1000 (by omega), ?_⟩
    exact kk _ (Off.put fun b u e _ => s1 _ _ e) upd_same
/-- live_slip(("goal", g)): the house's own slip, or None -/
def spLiveT (c : WebC) : Sp := fun vs H Q _ => ∃ (h : HomeA) (s : SlipA) (i n : Nat) (lo hi g : Int) (q : Addr), vs = [.ref h.x, .ref q] ∧ HomeT H c h s i lo hi n ∧ H q = some (.tup [.str "goal", .int g]) ∧ (g = (i : Nat) → ∀ H', Same H H' → Q (.ref s.sl) H') ∧ (g ≠ (i : Nat) → ∀ H', Same H H' → Q .non H')
theorem HomeT.same {H H' : Hp} {c : WebC} {h : HomeA} {s : SlipA} {i n : Nat} {lo hi : Int} (t : HomeT H c h s i lo hi n) (z : Same H H') : HomeT H' c h s i lo hi n := t.off (as := []) (Off.of_same z) (fun _ _ => by simp) (fun _ _ => by simp)
def goalP (g : Int) : PyData := .tuple [.str "goal", .int g]
theorem dp_goalP {K : PySem.W.Frag} {H : Hp} {t : Addr} {g : Int} (h : H t = some (.tup [.str "goal", .int g])) : Dp K H (.ref t) (goalP g) := .tup (SqT.of h) (.cons (.str _) (.cons (.int _) .nil))
theorem lay_goalP (g : Int) : (goalP g).canLay0 = true := by
  simp only [goalP, PyData.canLay0, PyData.canLayAll0, Bool.and_true]
  decide +kernel
theorem shaped_goalP (g : Int) : SeqAt.shaped (goalP g) = true := by
  unfold SeqAt.shaped
  have h4 : (goalP g).depth ≤ 64 := by simp [goalP, PyData.depth, PyData.depthAll]
  rw [lay_goalP g, decide_eq_true h4]
  rfl
theorem eqv_goalP (a b : Int) : PyData.eqv (goalP a) (goalP b) = decide (a = b) := by
  unfold goalP
  simp [PyData.eqv, PyData.eqvAll]
  by_cases h : a = b
  · subst h; simp
  · rw [decide_eq_false h]; simpa using h
theorem scLiveSlip : FnScope ["self", "what", "number", "slip"] ["self", "what"] (defScope sLiveSlip) := ⟨rfl, rfl, rfl, by decide +kernel, rfl, by decide +kernel, by decide +kernel⟩
theorem ok_liveT {f fH fS : Addr} {c : WebC} {fd : FuncData} {k : Nat} (F : Fun K "live_slip" "House.live_slip" sLiveSlip f fd) (T : BT mg) (TH : ClsT K mg "House" c.H fH homeFs) (TS : ClsT K mg "Slip" c.S fS slipFs) : FnOk P w K mg base CX0 (k + 1) f fd ["self", "what"] (spLiveT c) := by
  refine F.ok scLiveSlip (fun vs H Q E h => ?_) (fun cdv A outer s H vs Q E hr h => ?_)
  · obtain ⟨h, z, i, n, lo, hi, g, q, rfl, _⟩ := h
    rfl
  · obtain ⟨h, z, i, n, lo, hi, g, q, rfl, hs, hq, k1, k2⟩ := h
    have hu := hu_of hr
    refine ⟨_, pss_cons (ps_for PassesOwn.never rfl (pi_list (pe_callB (call_sortedDA rfl) (by rfl) T.sorted (by decide +kernel) (pa_cons (pe_fld (pv 0) rfl) pa_nil))) (pg_name (i := 2) scLiveSlip.nd rfl (Or.inl rfl))
      (pss_cons (ps_set (i := 3) scLiveSlip.nd rfl (.inl rfl) (pe_dget hu (pe_fld (pv 0) rfl) (pv 2) (fun _ _ => rfl)))
      (pss_one (ps_if (PW.pt (pw_and (pt_cmpR (r := rEqD K) (op_eqD hr.units) (pe_fld (pv 3) rfl) (pv 1) (nomark _)) (pw_and1 (pt_cmpR op_eq (pe_fld (pv 3) rfl) pe_str (nomark _))))) (pss_one (ps_ret (pv 3))) pss_nil)))) (pss_one (ps_ret pe_non)), ?_⟩
    refine ⟨_, rfl, h.x, c.H, h.dx, _, _, rfl, hs.me, TH.cl, TH.na _ (by decide), rfl, h.st, _, [lo], rfl, Rd.of hs.st, rfl, (by show 1 ≤ sizeLine; decide), fun ys l hp _ nl => ?_⟩
    have e0 : ys = [lo] := List.perm_singleton.mp hp
    subst e0
    have s1 := same_upd (o := .lst [.int lo]) nl
    have hs1 := hs.same s1
    refine ⟨l, rfl, ⟨_, SqL.of upd_same⟩, ?_⟩
    refine for_list (K := K) (a := l) (xs := [.int lo]) (fun j σ H' => (j = 1 → g ≠ (i : Nat)) ∧ (∃ y2 y3, σ = [some (.ref h.x), some (.ref q), y2, y3]) ∧ H' = upd H l (.lst [.int lo])) ⟨(fun z => by cases z), ⟨_, _, rfl⟩, rfl⟩ (fun j σ H' _ e => by rw [e.2.2]; exact SqL.of upd_same) ?_ ?_
    · rintro j y σ H' hy ⟨_, ⟨y2, y3, rfl⟩, rfl⟩
      match j, hy with
      | 0, hy =>
        cases hy
        refine ⟨_, rfl, h.x, c.H, h.dx, _, _, rfl, hs1.me, TH.cl, TH.na _ (by decide), rfl, _, rfl, h.st, .ref z.sl, rfl, .inl ⟨_, .inl lo, .inl hs1.st, rfl, (by unfold valV; simp)⟩, ?_⟩
        refine ⟨_, rfl, z.sl, c.S, z.dsl, _, _, rfl, hs1.sl, TS.cl, TS.na _ (by decide), rfl, _, rfl, _, _, dp_goalP hs1.wh, dp_goalP (s1 _ _ hq), shaped_goalP _, shaped_goalP _, _, rfl, ?_⟩
        rw [eqv_goalP]
        by_cases cg : ((i : Nat) : Int) = g
        · refine ifT0 (decide_eq_true cg) ?_
          refine ⟨_, rfl, z.sl, c.S, z.dsl, _, _, rfl, hs1.sl, TS.cl, TS.na _ (by decide), rfl, rfl, _, rfl, ifT0 (decide_eq_true rfl) ?_⟩
          exact ⟨_, rfl, k1 cg.symm _ s1⟩
        · exact ifF0 (decide_eq_false cg) ⟨fun _ e => cg e.symm, ⟨_, _, rfl⟩, rfl⟩
      | j + 1, hy => simp at hy
    · rintro σ H' ⟨hn, ⟨y2, y3, rfl⟩, rfl⟩
      exact k2 (hn rfl) _ s1
end
end K


namespace K
open PySem PySem.Spec PyProof.Rows L2 SwD
def spTellS (c : WebC) : Sp := fun vs H Q _ => ∃ (a : WebA) (rs : List (Int × Int)) (m i : Nat) (h : HomeA) (s : SlipA) (r : Addr) (ls : List V) (mvs : List (List Key × V)) (o : Int), vs = [.ref a.x, .ref h.x, .int o] ∧ Still H c a rs m ∧ a.hs[i]? = some h ∧ a.ss[i]? = some s ∧ H a.ml = some (.dT mvs) ∧ valV mvs (kp ((i : Nat), o)) = some (.ref r) ∧ H r = some (.lst ls) ∧ ls.length ≤ 800 ∧ m ≤ 800 ∧ r ∉ a.adr ∧
  ∀ (H' : Hp) (lt : V), Off [s.td, r] H H' → Still H' c a rs (m + 1) → H' r = some (.lst (ls ++ [lt])) → Q .non H'
section
variable {P : Program} {w : World} {K : PySem.W.Frag} {mg : Str → Option Value} {base : Heap}
theorem scTellS : FnScope ["web", "home", "other", "goal", "slip"] ["web", "home", "other"] (defScope sTellS) := ⟨rfl, rfl, rfl, by decide +kernel, rfl, by decide +kernel, by decide +kernel⟩
theorem ok_tellS {f fW fH fS fL fP : Addr} {c : WebC} {fd fdL fdP : FuncData} {k : Nat} (F : Fun K "tell_slips" "tell_slips" sTellS f fd) (T : BT mg) (TC : ClsT K mg "Web" c.W fW webFs) (TH : ClsT K mg "House" c.H fH homeFs) (TS : ClsT K mg "Slip" c.S fS slipFs)
    (mL : Meth K c.H "live_slip" fL) (GL : FnOk P w K mg base CX0 (k + 2) fL fdL ["self", "what"] (spLiveT c)) (bL : Binds K fdL ["self", "what"] []) (cL : Cal P w K mg base (k + 2) "put_letter" fP fdP ["web", "home", "other", "letter"] (spPutL c)) : FnOk P w K mg base CX0 (k + 3) f fd ["web", "home", "other"] (spTellS c) := by
  refine F.ok scTellS (fun vs H Q E h => ?_) (fun cdv A outer s H vs Q E hr h => ?_)
  · obtain ⟨a, rs, m, i, h, s, r, ls, mvs, o, rfl, _⟩ := h
    rfl
  · obtain ⟨a, rs, m, i, h, z, r, ls, mvs, o, rfl, hS, hi, hz, hm, hv, hr0, hls, hm8, hra, kk⟩ := h
    have hu := hu_of hr
    have il : i < rs.length := by have := (List.getElem?_eq_some_iff.mp hi).1; have := hS.lh; omega
    obtain ⟨rr, er⟩ : ∃ rr, rs[i]? = some rr := ⟨_, List.getElem?_eq_getElem il⟩
    have mz := List.mem_of_getElem? hz
    refine ⟨_, pss_one (ps_for PassesOwn.never rfl (pi_range1 (by rfl) T.range (pa_cons (pe_callB call_len_seq (by rfl) T.len PySem.boot_len (pa_cons (pe_fld (pv 1) rfl) pa_nil)) pa_nil)) (pg_name (i := 3) scTellS.nd rfl (Or.inl rfl))
      (pss_cons (ps_set (i := 4) scTellS.nd rfl (.inl rfl) (pe_meth (pv 1) TH.cl mL GL hr bL .nil pass0 (pa_cons (pe_tup (pa_cons pe_str (pa_cons (pv 3) pa_nil))) pa_nil)))
      (pss_one (ps_if (pt_cmpR op_notN (pv 4) pe_non (nomark _)) (pss_cons (ps_dput hu (pe_fld (pv 4) rfl) (pv 2) pe_bl rfl) (pss_one (ps_expr (pe_call cL.ok hr (by rfl) cL.g cL.kp cL.b .nil pass0 (pa_cons (pv 0) (pa_cons (pv 1) (pa_cons (pv 2) (pa_cons (pe_tup (pa_cons pe_str (pa_cons (pv 3) (pa_cons (pe_fld (pv 4) rfl) (pa_cons (pe_fld (pv 4) rfl) pa_nil))))) pa_nil)))))))) pss_nil)))), ?_⟩
    have hh := (hS.home i h rr z hi er hz).2
    refine ⟨_, rfl, h.x, c.H, h.dx, _, .ref h.wt, rfl, hh.me, TH.cl, TH.na _ (by decide), rfl, h.wt, _, rfl, .inl (SqL.of hh.wt), rs.length, (by rw [List.length_replicate]), by omega, by have := hS.n8; omega, ?_⟩
    refine for_range (lo := 0) (n := rs.length) (fun g σ H' => (∃ y3 y4, σ = [some (.ref a.x), some (.ref h.x), some (.int o), y3, y4]) ∧ ((g ≤ i ∧ Same H H') ∨ (i < g ∧ Off [z.td, r] H H' ∧ Still H' c a rs (m + 1) ∧ ∃ lt, H' r = some (.lst (ls ++ [lt]))))) ⟨⟨_, _, rfl⟩, .inl ⟨Nat.zero_le _, fun b o e => e⟩⟩ ?_ ?_
    · rintro g σ H1 hg ⟨⟨y3, y4, rfl⟩, st⟩
      have hS1 : Still H1 c a rs (m + 1) := by
        rcases st with ⟨_, s1⟩ | ⟨_, _, q, _⟩
        · exact (hS.same s1).more (by omega)
        · exact q
      have hh1 := (hS1.home i h rr z hi er hz).2
      refine ⟨_, rfl, h.x, h.dx, _, rfl, hh1.me, rfl, _, rfl, (by show 2 ≤ sizeLine; decide), fun q nq => ?_⟩
      have s2 := same_upd (o := .tup [.str "goal", .int (0 + (g : Int))]) nq
      have hq := upd_same (H := H1) (a := q) (o := .tup [.str "goal", .int (0 + (g : Int))])
      have hh2 := hh1.same s2
      generalize upd H1 q (.tup [.str "goal", .int (0 + (g : Int))]) = H2 at *
      refine ⟨h, z, i, rs.length, rr.1, rr.2, 0 + (g : Int), q, rfl, hh2, hq, fun eg H3 s3 => ?_, fun ng H3 s3 => ?_⟩
      · have egi : g = i := by omega
        subst egi
        rcases st with ⟨_, s1⟩ | ⟨c1, _⟩
        · have sA : Same H H3 := s1.trans (s2.trans s3)
          have hh3 := hh2.same s3
          have hS3 := (hS.same sA)
          obtain ⟨kv, htd, hkl⟩ := hS3.told z mz
          refine ⟨_, rfl, rfl, _, rfl, ifT0 (by rw [decide_eq_false (fun z => by cases z)]; rfl) ?_⟩
          refine ⟨_, rfl, z.sl, c.S, z.dsl, _, .ref z.td, rfl, hh3.sl, TS.cl, TS.na _ (by decide), rfl, _, rfl, z.td, _, rfl, DPut.k (k := .inl o) htd (small1000 (by omega)), ?_⟩
          have o4 : Off [z.td] H (upd H3 z.td (.dK (putK kv (.inl o) (.bl true)))) := Off.put fun b u e _ => sA _ _ e
          have hS4 : Still (upd H3 z.td (.dK (putK kv (.inl o) (.bl true)))) c a rs (m + 1) := (hS3.more (by omega)).hold mz (by
            unfold putK
            split
            · rw [List.length_map]; omega
            · rw [List.length_append]; show kv.length + 1 ≤ m + 1; omega)
          have ntr : r ≠ z.td := fun e => by rw [← e, sA _ _ hr0] at htd; cases htd
          have hr4 := (upd_ne (o := .dK (putK kv (.inl o) (.bl true))) ntr).trans (sA _ _ hr0)
          have nml : a.ml ≠ z.td := fun e => by rw [← e, sA _ _ hm] at htd; cases htd
          have hm4 := (upd_ne (o := .dK (putK kv (.inl o) (.bl true))) nml).trans (sA _ _ hm)
          generalize upd H3 z.td (.dK (putK kv (.inl o) (.bl true))) = H4 at *
          have hh4 := (hS4.home g h rr z hi er hz).2
          refine ⟨_, rfl, _, rfl, _, rfl, _, rfl, _, rfl, z.sl, c.S, z.dsl, _, .int rr.1, rfl, hh4.sl, TS.cl, TS.na _ (by decide), rfl, _, rfl, z.sl, c.S, z.dsl, _, .ref z.pa, rfl, hh4.sl, TS.cl, TS.na _ (by decide), rfl, (by show 4 ≤ sizeLine; decide), fun lt nlt => ?_⟩
          have s5 := same_upd (o := .tup [.str "tell", .int (0 + (g : Int)), .int rr.1, .ref z.pa]) nlt
          have hS5 := hS4.same s5
          have hr5 := s5 _ _ hr4
          have hm5 := s5 _ _ hm4
          have hh5 := hh4.same s5
          have o5 : Off [z.td] H (upd H4 lt (.tup [.str "tell", .int (0 + (g : Int)), .int rr.1, .ref z.pa])) := o4.new nlt
          generalize upd H4 lt (.tup [.str "tell", .int (0 + (g : Int)), .int rr.1, .ref z.pa]) = H5 at *
          refine ⟨a.x, a.dx, a.hl, a.b, a.ml, a.bo, h.x, h.dx, h.nu, h.sg, h.wt, h.st, h.nw, h.qu, r, _, (g : Nat), o, .ref lt, mvs, ls, rfl, hS5.me, hh5.me, hm5, hv, hr5, by omega, fun H6 o6 hr6 => ?_⟩
          refine ⟨⟨_, _, rfl⟩, .inr ⟨by omega, fun b u e nb => o6 _ _ (o5 _ _ e (fun q => nb (by simp at q; simp [q]))) (fun q => nb (by simp at q; simp [q])), ?_, .ref lt, hr6⟩⟩
          exact hS5.off (as := [r]) o6 (fun y hy q => hra (by rw [← List.mem_singleton.mp q]; exact hy)) (fun w mw q => by
            obtain ⟨ks, e1, _⟩ := hS5.told w mw
            rw [List.mem_singleton.mp q, hr5] at e1
            cases e1)
        · exact absurd c1 (Nat.lt_irrefl _)
      · have ngi : g ≠ i := fun e => ng (by omega)
        refine ⟨_, rfl, rfl, _, rfl, ifF0 (by rw [decide_eq_true rfl]; rfl) ?_⟩
        have s23 : Same H1 H3 := s2.trans s3
        refine ⟨⟨_, _, rfl⟩, ?_⟩
        rcases st with ⟨c1, s1⟩ | ⟨c1, o1, q1, lt, h1⟩
        · exact .inl ⟨by omega, s1.trans s23⟩
        · exact .inr ⟨by omega, fun b u e nb => s23 _ _ (o1 _ _ e nb), q1.same s23, lt, s23 _ _ h1⟩
    · rintro σ H1 ⟨⟨y3, y4, rfl⟩, st⟩
      rcases st with ⟨c1, _⟩ | ⟨_, o1, q1, lt, h1⟩
      · exact absurd c1 (by omega)
      · exact kk H1 lt o1 q1 h1
end
end K


/-! a web amid a deed: its parts, whatever its mail's keys are -/
namespace K
open PySem PySem.Spec PyProof.Rows L2 SwD
structure Raw (H : Hp) (c : WebC) (a : WebA) (rs : List (Int × Int)) (bs : List Bond) (kb mv : List (List Key × V)) (ro : List Addr) (m : Nat) : Prop where
  st : Still H c a rs m
  b : H a.b = some (.dT kb)
  p : Paired (BondAt H) kb bs
  ml : H a.ml = some (.dT mv)
  rows : ∀ r ∈ ro, ∃ ls, H r = some (.lst ls) ∧ ls.length ≤ m
  nb : a.b ∉ a.adr ∧ a.ml ∉ a.adr ∧ a.b ≠ a.ml
  nr : ∀ r ∈ ro, r ∉ a.adr
theorem pair_keep {H H' : Hp} {kb : List (List Key × V)} {bs : List Bond} (h : Paired (BondAt H) kb bs) (k : ∀ y xs, H y = some (.tup xs) → H' y = some (.tup xs)) : Paired (BondAt H') kb bs := paired_mono (fun x y ⟨e, v, e1, e2⟩ => ⟨e, v, e1, k _ _ e2⟩) h
section
variable {H H' : Hp} {c : WebC} {a : WebA} {rs : List (Int × Int)} {bs bs' : List Bond} {kb kb' mv mv' : List (List Key × V)} {ro : List Addr} {m : Nat}
theorem Raw.td (w : Raw H c a rs bs kb mv ro m) : ∀ s ∈ a.ss, s.td ≠ a.b ∧ s.td ≠ a.ml := fun s ms => by
  obtain ⟨kvs, e, _⟩ := w.st.told s ms
  exact ⟨(fun z => by rw [z, w.b] at e; cases e), (fun z => by rw [z, w.ml] at e; cases e)⟩
theorem Raw.same (w : Raw H c a rs bs kb mv ro m) (s : Same H H') : Raw H' c a rs bs kb mv ro m :=
  ⟨w.st.same s, s _ _ w.b, pair_keep w.p (fun y xs e => s _ _ e), s _ _ w.ml, fun r mr => let ⟨ls, h1, h2⟩ := w.rows r mr; ⟨ls, s _ _ h1, h2⟩, w.nb, w.nr⟩
theorem Raw.more {k : Nat} (w : Raw H c a rs bs kb mv ro m) (h : m ≤ k) : Raw H c a rs bs kb mv ro k := ⟨w.st.more h, w.b, w.p, w.ml, fun r mr => let ⟨ls, h1, h2⟩ := w.rows r mr; ⟨ls, h1, by omega⟩, w.nb, w.nr⟩
theorem Raw.putB (w : Raw H c a rs bs kb mv ro m) (hp : Paired (BondAt H) kb' bs') : Raw (upd H a.b (.dT kb')) c a rs bs' kb' mv ro m := by
  have ne : ∀ {y o}, H y = some o → (∀ kv, o ≠ .dT kv) → upd H a.b (.dT kb') y = some o := fun e n => by rw [upd_ne (fun q => by rw [q, w.b] at e; exact n _ (Option.some.inj e).symm)]; exact e
  exact ⟨w.st.off (as := [a.b]) (Off.put fun b u e _ => e) (fun y hy z => w.nb.1 (by rw [← List.mem_singleton.mp z]; exact hy)) (fun s ms z => (w.td s ms).1 (List.mem_singleton.mp z)), upd_same, pair_keep hp (fun y xs e => ne e (fun kv z => by cases z)), by rw [upd_ne (Ne.symm w.nb.2.2)]; exact w.ml,
    fun r mr => let ⟨ls, h1, h2⟩ := w.rows r mr; ⟨ls, ne h1 (fun kv z => by cases z), h2⟩, w.nb, w.nr⟩
theorem Raw.putM (w : Raw H c a rs bs kb mv ro m) : Raw (upd H a.ml (.dT mv')) c a rs bs kb mv' ro m := by
  have ne : ∀ {y o}, H y = some o → (∀ kv, o ≠ .dT kv) → upd H a.ml (.dT mv') y = some o := fun e n => by rw [upd_ne (fun q => by rw [q, w.ml] at e; exact n _ (Option.some.inj e).symm)]; exact e
  exact ⟨w.st.off (as := [a.ml]) (Off.put fun b u e _ => e) (fun y hy z => w.nb.2.1 (by rw [← List.mem_singleton.mp z]; exact hy)) (fun s ms z => (w.td s ms).2 (List.mem_singleton.mp z)), by rw [upd_ne w.nb.2.2]; exact w.b, pair_keep w.p (fun y xs e => ne e (fun kv z => by cases z)), upd_same,
    fun r mr => let ⟨ls, h1, h2⟩ := w.rows r mr; ⟨ls, ne h1 (fun kv z => by cases z), h2⟩, w.nb, w.nr⟩
theorem Still.there (t : Still H c a rs m) : ∀ y ∈ a.adr, ∃ o, H y = some o := fun y hy => by
  simp only [WebA.adr, List.mem_append, List.mem_cons, List.not_mem_nil, or_false, List.mem_flatMap] at hy
  rcases hy with ((rfl | rfl | rfl) | ⟨h, mh, my⟩) | ⟨s, ms, my⟩
  · exact ⟨_, t.me⟩
  · exact ⟨_, t.hl⟩
  · exact ⟨_, t.bo⟩
  · obtain ⟨i, hi⟩ := List.mem_iff_getElem?.mp mh
    have il : i < rs.length := by have := (List.getElem?_eq_some_iff.mp hi).1; have := t.lh; omega
    have is : i < a.ss.length := by have := t.ls; omega
    have q := (t.home i h _ _ hi (List.getElem?_eq_getElem il) (List.getElem?_eq_getElem is)).2
    simp only [HomeA.adr, List.mem_cons, List.not_mem_nil, or_false] at my
    rcases my with rfl | rfl | rfl | rfl | rfl | rfl | rfl | rfl
    · exact ⟨_, q.me⟩
    · exact ⟨_, q.num.1⟩
    · exact ⟨_, q.num.2⟩
    · exact ⟨_, q.sg⟩
    · exact ⟨_, q.wt⟩
    · exact ⟨_, q.st⟩
    · exact ⟨_, q.nw⟩
    · exact ⟨_, q.qu⟩
  · obtain ⟨i, hi⟩ := List.mem_iff_getElem?.mp ms
    have il : i < rs.length := by have := (List.getElem?_eq_some_iff.mp hi).1; have := t.ls; omega
    have ih : i < a.hs.length := by have := t.lh; omega
    have q := (t.home i _ _ s (List.getElem?_eq_getElem ih) (List.getElem?_eq_getElem il) hi).2
    simp only [SlipA.adr, List.mem_cons, List.not_mem_nil, or_false] at my
    rcases my with rfl | rfl | rfl
    · exact ⟨_, q.sl⟩
    · exact ⟨_, q.wh⟩
    · exact ⟨_, q.pa⟩
theorem Raw.row {r : Addr} (w : Raw H c a rs bs kb mv ro m) (n : H r = none) : Raw (upd H r (.lst [])) c a rs bs kb mv (ro ++ [r]) m := by
  have q := w.same (same_upd (o := .lst []) n)
  refine ⟨q.st, q.b, q.p, q.ml, fun x mx => ?_, q.nb, fun x mx => ?_⟩
  · rcases List.mem_append.mp mx with mx | mx
    · exact q.rows x mx
    · rw [List.mem_singleton.mp mx]
      exact ⟨[], upd_same, Nat.zero_le _⟩
  · rcases List.mem_append.mp mx with mx | mx
    · exact q.nr x mx
    · rw [List.mem_singleton.mp mx]
      exact fun z => by obtain ⟨o, e⟩ := w.st.there r z; rw [n] at e; cases e
theorem Raw.tell {r : Addr} {s : SlipA} {ls : List V} {lt : V} (w : Raw H c a rs bs kb mv ro m) (ms : s ∈ a.ss) (hr : H r = some (.lst ls)) (hl : ls.length ≤ m) (o : Off [s.td, r] H H') (t : Still H' c a rs (m + 1)) (hr' : H' r = some (.lst (ls ++ [lt]))) : Raw H' c a rs bs kb mv ro (m + 1) := by
  obtain ⟨kvs, htd, _⟩ := w.st.told s ms
  have keep : ∀ {y u}, H y = some u → (∀ kv, u ≠ .dK kv) → (∀ xs, u ≠ .lst xs) → H' y = some u := fun e n1 n2 => o _ _ e (fun m => by
    simp only [List.mem_cons, List.not_mem_nil, or_false] at m
    rcases m with z | z
    · rw [z, htd] at e; exact n1 _ (Option.some.inj e).symm
    · rw [z, hr] at e; exact n2 _ (Option.some.inj e).symm)
  refine ⟨t, keep w.b (fun kv z => by cases z) (fun kv z => by cases z), pair_keep w.p (fun y xs e => keep e (fun kv z => by cases z) (fun kv z => by cases z)), keep w.ml (fun kv z => by cases z) (fun kv z => by cases z), fun x mx => ?_, w.nb, w.nr⟩
  obtain ⟨xs, h1, h2⟩ := w.rows x mx
  by_cases e : x = r
  · rw [e]
    exact ⟨_, hr', by rw [List.length_append]; show ls.length + 1 ≤ m + 1; omega⟩
  · refine ⟨xs, o _ _ h1 (fun m => ?_), by omega⟩
    simp only [List.mem_cons, List.not_mem_nil, or_false] at m
    rcases m with z | z
    · rw [z, htd] at h1; cases h1
    · exact e z
end
theorem TW.raw {H : Hp} {c : WebC} {a : WebA} {rs : List (Int × Int)} {bs : List Bond} {ro : List Addr} {m : Nat} (t : TW H c a rs bs ro m) : ∃ kb mv, Raw H c a rs bs kb mv ro m ∧ mv.length ≤ 2 * m ∧ (∀ k : Int × Int, (∃ v, valV mv (kp k) = some v) ↔ (k ∈ bs.map (·.1) ∨ (k.2, k.1) ∈ bs.map (·.1))) ∧ ∀ e ∈ mv, ∃ r ∈ ro, e.2 = .ref r := by
  obtain ⟨kb, h1, h2⟩ := t.b
  obtain ⟨mv, h3, h4, h5, h6⟩ := t.ml
  exact ⟨kb, mv, ⟨t.st, h1, h2, h3, t.rows, t.nb, t.nr⟩, h4, h5, h6⟩
theorem Raw.web {H : Hp} {c : WebC} {a : WebA} {rs : List (Int × Int)} {bs : List Bond} {kb mv : List (List Key × V)} {ro : List Addr} {m : Nat} (w : Raw H c a rs bs kb mv ro m) (nd : (bs.map (·.1)).Nodup) (ok : ∀ e ∈ bs, 0 ≤ e.1.1 ∧ e.1.1 < e.1.2 ∧ e.1.2 < rs.length) (few : bs.length ≤ 14)
    (hl : mv.length ≤ 2 * m) (hk : ∀ k : Int × Int, (∃ v, valV mv (kp k) = some v) ↔ (k ∈ bs.map (·.1) ∨ (k.2, k.1) ∈ bs.map (·.1))) (hr : ∀ e ∈ mv, ∃ r ∈ ro, e.2 = .ref r) : TW H c a rs bs ro m :=
  ⟨w.st, ⟨kb, w.b, w.p⟩, nd, ok, few, ⟨mv, w.ml, hl, hk, hr⟩, w.rows, w.nb, w.nr, w.td⟩
theorem put_len {κ : Type} [DecidableEq κ] (kvs : List (κ × V)) (k : κ) (v : V) : (putK kvs k v).length ≤ kvs.length + 1 := by
  unfold putK
  split
  · rw [List.length_map]; omega
  · rw [List.length_append]; exact Nat.le_refl _
theorem put_mem {κ : Type} [DecidableEq κ] {kvs : List (κ × V)} {k : κ} {v : V} {e : κ × V} (h : e ∈ putK kvs k v) : e ∈ kvs ∨ e.2 = v := by
  unfold putK at h
  split at h
  · obtain ⟨x, mx, z⟩ := List.mem_map.mp h
    split at z
    · right; rw [← z]
    · left; rw [← z]; exact mx
  · rcases List.mem_append.mp h with m | m
    · exact .inl m
    · rw [List.mem_singleton.mp m]; exact .inr rfl
end K

namespace K
open PySem PySem.Spec PyProof.Rows L2 SwD
abbrev sW_build : Stmt := inClass (top 62) 7
theorem offT {as bs : List Addr} {H H1 H2 : Hp} (o1 : Off as H H1) (o2 : Off bs H1 H2) (h : ∀ b ∈ bs, b ∈ as ∨ H b = none) : Off as H H2 := fun b u e nb => o2 _ _ (o1 _ _ e nb) (fun m => (h b m).elim nb (fun n => by rw [n] at e; cases e))
def spBuild (c : WebC) (CH CT CS CP CM : Addr) : Sp := fun vs H Q E => ∃ (a : WebA) (rs : List (Int × Int)) (bs : List Bond) (ro : List Addr) (m : Nat) (i j p : Int), vs = [.ref a.x, .int i, .int j, .int p] ∧ TW H c a rs bs ro m ∧ m ≤ 400 ∧ lowI i ∧ lowI j ∧ FirstX CH rs.length i j H E ∧
  (inH rs.length i → inH rs.length j → i = j → TieX CT i j H E) ∧ (inH rs.length i → inH rs.length j → i ≠ j → ∀ v, bget bs (srt i j) = some v → BareX CS "hastie" H E) ∧
  (inH rs.length i → inH rs.length j → i ≠ j → bget bs (srt i j) = none → (¬ (1 ≤ p ∧ p ≤ 9) → BareX CP "badprice" H E) ∧ ((1 ≤ p ∧ p ≤ 9) → bs.length = 14 → IntX CM "bound" "toomany" 14 H E) ∧
    ((1 ≤ p ∧ p ≤ 9) → bs.length < 14 → ∀ (H' : Hp) (rr : List Addr), (∀ r ∈ rr, H r = none) → Off (TW.mut a ro) H H' → TW H' c a rs (bs ++ [(srt i j, (p, true))]) (ro ++ rr) (m + 2) → Q .non H'))
theorem srt_ok {n : Nat} {i j : Int} (hi : inH n i) (hj : inH n j) (ne : i ≠ j) : 0 ≤ (srt i j).1 ∧ (srt i j).1 < (srt i j).2 ∧ (srt i j).2 < n := by
  unfold srt inH at *
  split <;> split <;> refine ⟨?_, ?_, ?_⟩ <;> simp only [] <;> omega
theorem IntX.same {C : Addr} {f wd : Str} {i : Int} {H H' : Hp} {E : XK} (h : IntX C f wd i H E) (s : Same H H') : IntX C f wd i H' E := fun d H2 nd s2 e => h d H2 (s.free nd) (s.trans s2) e
theorem offS {as : List Addr} {H H' : Hp} (s : Same H H') : Off as H H' := fun b o e _ => s b o e
theorem offN {as : List Addr} {H H' : Hp} {p : Addr} {o : HO} (h : Off as H H') (hp : H' p = none) : Off as H (upd H' p o) := fun b u e nb => by rw [upd_ne (ne_of_none (h b u e nb) hp)]; exact h b u e nb
theorem offP {as : List Addr} {H H' : Hp} {p : Addr} {o : HO} (h : Off as H H') (hp : p ∈ as) : Off as H (upd H' p o) := fun b u e nb => by rw [upd_ne (fun q => nb (by rw [q]; exact hp))]; exact h b u e nb
theorem Raw.fresh {H H' : Hp} {c : WebC} {a : WebA} {rs : List (Int × Int)} {bs : List Bond} {kb mv : List (List Key × V)} {ro r0 : List Addr} {m : Nat} {r : Addr} (w : Raw H' c a rs bs kb mv ro m) (hs : ∀ x ∈ r0, x ∈ ro) (o : Off (TW.mut a r0) H H') (n : H' r = none) : H r = none := by
  cases e : H r with
  | none => rfl
  | some u =>
    by_cases mm : r ∈ TW.mut a r0
    · simp only [TW.mut, List.mem_append, List.mem_cons, List.not_mem_nil, or_false, List.mem_map] at mm
      rcases mm with ((z | z) | z) | ⟨s, ms, z⟩
      · rw [z, w.b] at n; cases n
      · rw [z, w.ml] at n; cases n
      · obtain ⟨ls, h1, _⟩ := w.rows r (hs r z)
        rw [h1] at n; cases n
      · obtain ⟨ks, h1, _⟩ := w.st.told s ms
        rw [z, n] at h1; cases h1
    · rw [o _ _ e mm] at n; cases n
theorem kp_ne {a b : Int × Int} (h : a ≠ b) : kp a ≠ kp b := fun e => h (kp_inj e)
section
variable {P : Program} {w : World} {K : PySem.W.Frag} {mg : Str → Option Value} {base : Heap}
theorem scBuild : FnScope ["self", "one", "other", "price", "low", "high"] ["self", "one", "other", "price"] (defScope sW_build) := ⟨rfl, rfl, rfl, by decide +kernel, rfl, by decide +kernel, by decide +kernel⟩
theorem ok_build {f fW fC CH CT CS CP CM fP fQ fT fS fM fX : Addr} {c : WebC} {fd fdC fdP fdQ fdT fdS fdM fdX : FuncData} {k : Nat} {tk : Tok} (F : Fun K "build" "Web.build" sW_build f fd) (T : BT mg) (TC : ClsT K mg "Web" c.W fW webFs) (mC : Meth K c.W "check_houses" fC) (GC : FnOk P w K mg base (L2.CX P w) (k + 2) fC fdC ["self", "houses"] (spChecksX c CH)) (bC : Binds K fdC ["self", "houses"] [])
    (cP : Cal P w K mg base (k + 2) "sorted_pair" fP fdP ["one", "other"] spPair2) (cQ : CalX P w K mg base (k + 2) "check_price" fQ fdQ ["price"] (spPrice CP)) (cT : Cal P w K mg base (k + 2) "tell_slips" fX fdX ["web", "home", "other"] (spTellS c))
    (NT : ExcC P w K mg base (k + 1) "NoTie" CT fT fdT ["self", "one", "other"] (spIn2 K "one" "other" "notie")) (f1 : PySem.W.findIn K (.ref CT) "one" = some none) (f2 : PySem.W.findIn K (.ref CT) "other" = some none) (NS : ExcC P w K mg base (k + 1) "HasTie" CS fS fdS ["self"] (spIn0 K "hastie"))
    (NM : ExcC P w K mg base (k + 1) "TooMany" CM fM fdM ["self", "bound"] (spIn1 K "bound" "toomany" askInt gotSame)) (fb : PySem.W.findIn K (.ref CM) "bound" = some none) (g14 : mg "MOST_TIES" = some (.int 14 tk)) : FnOk P w K mg base (L2.CX P w) (k + 3) f fd ["self", "one", "other", "price"] (spBuild c CH CT CS CP CM) := by
  refine F.okX scBuild (fun vs H Q E h => ?_) (fun cdv A outer s H vs Q E hr h => ?_)
  · obtain ⟨a, rs, bs, ro, m, i, j, p, rfl, _⟩ := h
    rfl
  · obtain ⟨a, rs, bs, ro, m, i, j, p, rfl, W, m7, li, lj, hF, hT, hS, kk⟩ := h
    have hu := hu_of hr
    refine ⟨_, pss_cons (ps_expr (pe_meth (pv 0) TC.cl mC GC hr bC .nil (passes_call (takes_of rfl rfl rfl rfl) (fun _ _ _ _ h => h)) (pa_cons (pe_lst (pa_cons (pv 1) (pa_cons (pv 2) pa_nil))) pa_nil)))
      (pss_cons (ps_if (pt_cmpR op_eq (pv 1) (pv 2) (nomark _)) (pss_one (ps_raise rfl (takes_of rfl rfl rfl rfl) (pmk_oex NT.t.oex NT.t.iC NT.t.tI NT.ok hr NT.b .nil pass0 (by rfl) NT.t.g (pa_cons (pv 1) (pa_cons (pv 2) pa_nil))))) pss_nil)
      (pss_cons (ps_asg (pe_call cP.ok hr (by rfl) cP.g cP.kp cP.b .nil pass0 (pa_cons (pv 1) (pa_cons (pv 2) pa_nil))) (pg_tup rfl (pgs_cons (pg_name (i := 4) scBuild.nd rfl (Or.inl rfl)) (pgs_cons (pg_name (i := 5) scBuild.nd rfl (Or.inl rfl)) pgs_nil))))
      (pss_cons (ps_if (pt_cmp (pc_din hu (pe_tup (pa_cons (pv 4) (pa_cons (pv 5) pa_nil))) (pe_fld (pv 0) rfl))) (pss_one (ps_raise rfl (takes_of rfl rfl rfl rfl) (pmk_oex0 NS.t.oex NS.t.iC NS.t.tI NS.ok hr NS.b pass0 (by rfl) NS.t.g))) pss_nil)
      (pss_cons (ps_expr (pe_call cQ.ok hr (by rfl) cQ.g cQ.kp cQ.b .nil (passes_call (takes_of rfl rfl rfl rfl) (fun _ _ _ _ h => h)) (pa_cons (pv 3) pa_nil)))
      (pss_cons (ps_if (pt_cmpR op_ge (pe_callB call_len_dT (by rfl) T.len PySem.boot_len (pa_cons (pe_fld (pv 0) rfl) pa_nil)) (pe_glob (v := .int 14) (by rfl) g14 ⟨_, rfl⟩) (nomark _)) (pss_one (ps_raise rfl (takes_of rfl rfl rfl rfl) (pmk_oex NM.t.oex NM.t.iC NM.t.tI NM.ok hr NM.b .nil pass0 (by rfl) NM.t.g (pa_cons (pe_glob (v := .int 14) (by rfl) g14 ⟨_, rfl⟩) pa_nil)))) pss_nil)
      (pss_cons (ps_dput hu (pe_fld (pv 0) rfl) (pe_tup (pa_cons (pv 4) (pa_cons (pv 5) pa_nil))) (pe_tup (pa_cons (pv 3) (pa_cons pe_bl pa_nil))) rfl)
      (pss_cons (ps_dput hu (pe_fld (pv 0) rfl) (pe_tup (pa_cons (pv 4) (pa_cons (pv 5) pa_nil))) (pe_lst pa_nil) rfl)
      (pss_cons (ps_dput hu (pe_fld (pv 0) rfl) (pe_tup (pa_cons (pv 5) (pa_cons (pv 4) pa_nil))) (pe_lst pa_nil) rfl)
      (pss_cons (ps_expr (pe_call cT.ok hr (by rfl) cT.g cT.kp cT.b .nil pass0 (pa_cons (pv 0) (pa_cons (pe_ix (r := rIxL K) ix_list (pe_fld (pv 0) rfl) (pv 4) (fun _ _ => rfl)) (pa_cons (pv 5) pa_nil)))))
      (pss_one (ps_expr (pe_call cT.ok hr (by rfl) cT.g cT.kp cT.b .nil pass0 (pa_cons (pv 0) (pa_cons (pe_ix (r := rIxL K) ix_list (pe_fld (pv 0) rfl) (pv 5) (fun _ _ => rfl)) (pa_cons (pv 4) pa_nil))))))))))))))), ?_⟩
    have lh : (a.hs.map fun h => V.ref h.x).length = rs.length := by rw [List.length_map]; exact W.st.lh
    refine ⟨_, rfl, a.x, a.dx, _, rfl, W.st.me, rfl, _, rfl, _, rfl, (by show 2 ≤ sizeLine; decide), fun l nl => ?_⟩
    have s1 := same_upd (o := .lst [.int i, .int j]) nl
    have W1 := W.same s1
    have hl1 := upd_same (H := H) (a := l) (o := .lst [.int i, .int j])
    generalize upd H l (.lst [.int i, .int j]) = H1 at *
    refine ⟨a.x, a.dx, a.hl, a.b, a.ml, a.bo, l, _, _, i, j, rfl, W1.st.me, W1.st.hl, by rw [lh]; have := W.st.n8; omega, hl1, li, lj, by rw [lh]; exact hF.same s1, fun hi hj => ?_⟩
    rw [lh] at hi hj
    refine ⟨_, rfl, _, rfl, rfl, _, rfl, ?_⟩
    by_cases cij : i = j
    · exact ifT0 (decide_eq_true (by rw [cij])) (raise2 NT f1 f2 li lj (fun Q q => ⟨_, rfl, _, rfl, q⟩) ((hT hi hj cij).same s1))
    refine ifF0 (decide_eq_false (fun z => cij (by cases z; rfl))) ?_
    have so := srt_ok hi hj cij
    obtain ⟨lo, up, hsr⟩ : ∃ lo up : Nat, srt i j = ((lo : Int), (up : Int)) := by
      obtain ⟨lo, e1⟩ := Int.eq_ofNat_of_zero_le so.1
      obtain ⟨up, e2⟩ := Int.eq_ofNat_of_zero_le (show 0 ≤ (srt i j).2 by omega)
      exact ⟨lo, up, Prod.ext e1 e2⟩
    have e1 : (if j < i then j else i) = (lo : Int) := congrArg Prod.fst hsr
    have e2 : (if j > i then j else i) = (up : Int) := congrArg Prod.snd hsr
    have kS := hS hi hj cij
    have kK := kk hi hj cij
    rw [hsr] at so kS kK
    have lu : lo < up := by have := so.2.1; simp only [] at this; omega
    have un : up < rs.length := by have := so.2.2; simp only [] at this; omega
    refine ⟨_, rfl, _, rfl, i, j, rfl, fun t nt => ?_⟩
    have s2 := same_upd (o := .tup [.int (lo : Int), .int (up : Int)]) nt
    have ht := upd_same (H := H1) (a := t) (o := .tup [.int (lo : Int), .int (up : Int)])
    have W2 := W1.same s2
    show ∃ _, _
    generalize hH2 : upd H1 t (.tup [.int (lo : Int), .int (up : Int)]) = H2 at *
    have hH2' : upd H1 t (.tup [.int (if j < i then j else i), .int (if j > i then j else i)]) = H2 := by rw [e1, e2]; exact hH2
    rw [hH2']
    refine ⟨t, _, rfl, SqT.of ht, rfl, _, _, rfl, _, _, rfl, rfl, ?_⟩
    refine ⟨_, rfl, _, rfl, (by show 2 ≤ sizeLine; decide), fun q nq => ?_⟩
    have s3 := same_upd (o := .tup [.int (lo : Int), .int (up : Int)]) nq
    have hq := upd_same (H := H2) (a := q) (o := .tup [.int (lo : Int), .int (up : Int)])
    have W3 := W2.same s3
    generalize upd H2 q (.tup [.int (lo : Int), .int (up : Int)]) = H3 at *
    have s13 : Same H H3 := s1.trans (s2.trans s3)
    obtain ⟨kb, mv, R3, hml, hmk, hmr⟩ := W3.raw
    refine ⟨_, rfl, a.x, c.W, a.dx, _, .ref a.b, rfl, W3.st.me, TC.cl, TC.na _ (by decide), rfl, a.b, _, rfl, DGet.t (k := kp ((lo : Int), (up : Int))) R3.b hq, _, rfl, ?_⟩
    cases hb : bget bs ((lo : Int), (up : Int)) with
    | some v =>
      obtain ⟨tv, hv1, _⟩ := (bond_get (k := ((lo : Int), (up : Int))) R3.p).2 v hb
      rw [hv1]
      exact iteT (raise0 NS ((kS v hb).same s13))
    | none =>
      rw [(bond_get (k := ((lo : Int), (up : Int))) R3.p).1 hb]
      have hnk : ((lo : Int), (up : Int)) ∉ bs.map (·.1) := fun mm => by
        obtain ⟨v, e⟩ := bget_some.mpr mm
        rw [hb] at e
        cases e
      obtain ⟨kP, kM, kG⟩ := kK hb
      refine iteF ?_
      refine ⟨_, rfl, p, rfl, fun hp => ?_, fun hp => (kP hp).same s13⟩
      refine ⟨_, rfl, a.x, c.W, a.dx, _, .ref a.b, rfl, W3.st.me, TC.cl, TC.na _ (by decide), rfl, a.b, kb, rfl, R3.b, _, _, rfl, rfl, _, rfl, ?_⟩
      have hkl : kb.length = bs.length := paired_len R3.p
      by_cases c14 : bs.length = 14
      · exact ifT0 (decide_eq_true (by omega)) (raise1 NM fb (by decide) (fun Q q => q) ((kM hp c14).same s13))
      refine ifF0 (decide_eq_false (by have := W3.few; omega)) ?_
      have kf := kG hp (by have := W3.few; omega)
      -- the tie
      refine ⟨_, rfl, (by show 2 ≤ sizeLine; decide), fun t2 nt2 => ?_⟩
      have s4 := same_upd (o := .tup [.int p, .bl true]) nt2
      have ht2 := upd_same (H := H3) (a := t2) (o := .tup [.int p, .bl true])
      have R4 := R3.same s4
      generalize upd H3 t2 (.tup [.int p, .bl true]) = H4 at *
      refine ⟨_, rfl, a.x, c.W, a.dx, _, .ref a.b, rfl, R4.st.me, TC.cl, TC.na _ (by decide), rfl, _, rfl, _, rfl, (by show 2 ≤ sizeLine; decide), fun t3 nt3 => ?_⟩
      have s5 := same_upd (o := .tup [.int (lo : Int), .int (up : Int)]) nt3
      have ht3 := upd_same (H := H4) (a := t3) (o := .tup [.int (lo : Int), .int (up : Int)])
      have R5 := R4.same s5
      have ht2' := s5 _ _ ht2
      generalize upd H4 t3 (.tup [.int (lo : Int), .int (up : Int)]) = H5 at *
      have s15 : Same H H5 := s13.trans (s4.trans s5)
      refine ⟨a.b, _, rfl, DPut.t (k := kp ((lo : Int), (up : Int))) R5.b ht3 (by rw [hkl]; exact small1000 (by have := W3.few; omega)), ?_⟩
      have R6 := R5.putB (bond_new (k := ((lo : Int), (up : Int))) (v := (p, true)) R5.p hnk ht2')
      have o6 : Off (TW.mut a ro) H (upd H5 a.b (.dT (putK kb (kp ((lo : Int), (up : Int))) (.ref t2)))) := offP (offS s15) (by simp [TW.mut])
      generalize upd H5 a.b (.dT (putK kb (kp ((lo : Int), (up : Int))) (.ref t2))) = H6 at *
      -- the first box
      refine ⟨(by show 0 ≤ sizeLine; decide), fun r1 n1 => ?_⟩
      have nr1 := R6.fresh (fun x mx => mx) o6 n1
      have R7 := R6.row n1
      have o7 := offN (o := .lst []) o6 n1
      have hr1 := upd_same (H := H6) (a := r1) (o := .lst [])
      generalize upd H6 r1 (.lst []) = H7 at *
      refine ⟨_, rfl, a.x, c.W, a.dx, _, .ref a.ml, rfl, R7.st.me, TC.cl, TC.na _ (by decide), rfl, _, rfl, _, rfl, (by show 2 ≤ sizeLine; decide), fun t4 nt4 => ?_⟩
      have s8 := same_upd (o := .tup [.int (lo : Int), .int (up : Int)]) nt4
      have ht4 := upd_same (H := H7) (a := t4) (o := .tup [.int (lo : Int), .int (up : Int)])
      have R8 := R7.same s8
      have hr1' := s8 _ _ hr1
      have o8 := offN (o := .tup [.int (lo : Int), .int (up : Int)]) o7 nt4
      generalize upd H7 t4 (.tup [.int (lo : Int), .int (up : Int)]) = H8 at *
      refine ⟨a.ml, _, rfl, DPut.t (k := kp ((lo : Int), (up : Int))) R8.ml ht4 (small1000 (by omega)), ?_⟩
      have R9 := R8.putM (mv' := putK mv (kp ((lo : Int), (up : Int))) (.ref r1))
      have o9 : Off (TW.mut a ro) H (upd H8 a.ml (.dT (putK mv (kp ((lo : Int), (up : Int))) (.ref r1)))) := offP o8 (by simp [TW.mut])
      have hr9 := (upd_ne (o := .dT (putK mv (kp ((lo : Int), (up : Int))) (.ref r1))) (show r1 ≠ a.ml from fun z => by rw [z, R8.ml] at hr1'; cases hr1')).trans hr1'
      have l9 := put_len mv (kp ((lo : Int), (up : Int))) (.ref r1)
      generalize upd H8 a.ml (.dT (putK mv (kp ((lo : Int), (up : Int))) (.ref r1))) = H9 at *
      -- the second box
      refine ⟨(by show 0 ≤ sizeLine; decide), fun r2 n2 => ?_⟩
      have nr2 := R9.fresh (fun x mx => List.mem_append_left _ mx) o9 n2
      have R10 := R9.row n2
      have o10 := offN (o := .lst []) o9 n2
      have hr2 := upd_same (H := H9) (a := r2) (o := .lst [])
      have hr10 := same_upd (o := .lst []) n2 _ _ hr9
      generalize upd H9 r2 (.lst []) = H10 at *
      refine ⟨_, rfl, a.x, c.W, a.dx, _, .ref a.ml, rfl, R10.st.me, TC.cl, TC.na _ (by decide), rfl, _, rfl, _, rfl, (by show 2 ≤ sizeLine; decide), fun t5 nt5 => ?_⟩
      have s11 := same_upd (o := .tup [.int (up : Int), .int (lo : Int)]) nt5
      have ht5 := upd_same (H := H10) (a := t5) (o := .tup [.int (up : Int), .int (lo : Int)])
      have R11 := R10.same s11
      have hr2' := s11 _ _ hr2
      have hr11 := s11 _ _ hr10
      have o11 := offN (o := .tup [.int (up : Int), .int (lo : Int)]) o10 nt5
      generalize upd H10 t5 (.tup [.int (up : Int), .int (lo : Int)]) = H11 at *
      refine ⟨a.ml, _, rfl, DPut.t (k := kp ((up : Int), (lo : Int))) R11.ml ht5 (small1000 (by omega)), ?_⟩
      have R12 := R11.putM (mv' := putK (putK mv (kp ((lo : Int), (up : Int))) (.ref r1)) (kp ((up : Int), (lo : Int))) (.ref r2))
      have o12 : Off (TW.mut a ro) H (upd H11 a.ml (.dT (putK (putK mv (kp ((lo : Int), (up : Int))) (.ref r1)) (kp ((up : Int), (lo : Int))) (.ref r2)))) := offP o11 (by simp [TW.mut])
      have hr12 := (upd_ne (o := .dT (putK (putK mv (kp ((lo : Int), (up : Int))) (.ref r1)) (kp ((up : Int), (lo : Int))) (.ref r2))) (show r1 ≠ a.ml from fun z => by rw [z, R11.ml] at hr11; cases hr11)).trans hr11
      have hr22 := (upd_ne (o := .dT (putK (putK mv (kp ((lo : Int), (up : Int))) (.ref r1)) (kp ((up : Int), (lo : Int))) (.ref r2))) (show r2 ≠ a.ml from fun z => by rw [z, R11.ml] at hr2'; cases hr2')).trans hr2'
      have l12 := put_len (putK mv (kp ((lo : Int), (up : Int))) (.ref r1)) (kp ((up : Int), (lo : Int))) (.ref r2)
      generalize hH12 : upd H11 a.ml (.dT (putK (putK mv (kp ((lo : Int), (up : Int))) (.ref r1)) (kp ((up : Int), (lo : Int))) (.ref r2))) = H12 at *
      have nlu : kp ((lo : Int), (up : Int)) ≠ kp ((up : Int), (lo : Int)) := kp_ne (fun z => by have := congrArg Prod.fst z; simp only [] at this; omega)
      have v1 : valV (putK (putK mv (kp ((lo : Int), (up : Int))) (.ref r1)) (kp ((up : Int), (lo : Int))) (.ref r2)) (kp ((lo : Int), (up : Int))) = some (.ref r1) := by rw [valV_put, if_neg nlu, valV_put, if_pos rfl]
      have v2 : valV (putK (putK mv (kp ((lo : Int), (up : Int))) (.ref r1)) (kp ((up : Int), (lo : Int))) (.ref r2)) (kp ((up : Int), (lo : Int))) = some (.ref r2) := by rw [valV_put, if_pos rfl]
      generalize hmv : putK (putK mv (kp ((lo : Int), (up : Int))) (.ref r1)) (kp ((up : Int), (lo : Int))) (.ref r2) = mv2 at *
      have ll : lo < a.hs.length := by have := R12.st.lh; omega
      have ul : up < a.hs.length := by have := R12.st.lh; omega
      have ls' : lo < a.ss.length := by have := R12.st.ls; omega
      have us' : up < a.ss.length := by have := R12.st.ls; omega
      obtain ⟨hA, eA⟩ : ∃ h, a.hs[lo]? = some h := ⟨_, List.getElem?_eq_getElem ll⟩
      obtain ⟨hB, eB⟩ : ∃ h, a.hs[up]? = some h := ⟨_, List.getElem?_eq_getElem ul⟩
      obtain ⟨zA, fA⟩ : ∃ z, a.ss[lo]? = some z := ⟨_, List.getElem?_eq_getElem ls'⟩
      obtain ⟨zB, fB⟩ : ∃ z, a.ss[up]? = some z := ⟨_, List.getElem?_eq_getElem us'⟩
      have mA := List.mem_of_getElem? fA
      have mB := List.mem_of_getElem? fB
      have nr12 : r2 ≠ r1 := fun z => by rw [← z, n2] at hr9; cases hr9
      refine ⟨_, rfl, _, rfl, a.x, c.W, a.dx, _, .ref a.hl, rfl, R12.st.me, TC.cl, TC.na _ (by decide), rfl, _, rfl, a.hl, _, (lo : Nat), .ref hA.x, rfl, rfl, SqL.of R12.st.hl, atI_nat (by rw [List.getElem?_map, eA]; rfl), _, rfl, ?_⟩
      refine ⟨a, rs, m, lo, hA, zA, r1, [], mv2, (up : Nat), rfl, R12.st, eA, fA, R12.ml, v1, hr12, (by show 0 ≤ 800; decide), by omega, R12.nr r1 (by simp), fun H13 lt1 o13 t13 hr13 => ?_⟩
      have R13 := R12.tell mA hr12 (by show 0 ≤ m; omega) o13 t13 hr13
      have hr213 : H13 r2 = some (.lst []) := o13 _ _ hr22 (fun z => by
        simp only [List.mem_cons, List.not_mem_nil, or_false] at z
        rcases z with z | z
        · obtain ⟨ks, e, _⟩ := R12.st.told zA mA
          rw [← z, hr22] at e; cases e
        · exact nr12 z)
      have o13' := offT o12 o13 (fun b mb => by
        simp only [List.mem_cons, List.not_mem_nil, or_false] at mb
        rcases mb with z | z
        · exact .inl (by rw [z]; simp only [TW.mut, List.mem_append, List.mem_map]; exact .inr ⟨zA, mA, rfl⟩)
        · exact .inr (by rw [z]; exact nr1))
      refine ⟨_, rfl, _, rfl, a.x, c.W, a.dx, _, .ref a.hl, rfl, R13.st.me, TC.cl, TC.na _ (by decide), rfl, _, rfl, a.hl, _, (up : Nat), .ref hB.x, rfl, rfl, SqL.of R13.st.hl, atI_nat (by rw [List.getElem?_map, eB]; rfl), _, rfl, ?_⟩
      refine ⟨a, rs, m + 1, up, hB, zB, r2, [], mv2, (lo : Nat), rfl, R13.st, eB, fB, R13.ml, v2, hr213, (by show 0 ≤ 800; decide), by omega, R13.nr r2 (by simp), fun H14 lt2 o14 t14 hr14 => ?_⟩
      have R14 := R13.tell mB hr213 (by show 0 ≤ m + 1; omega) o14 t14 hr14
      have o14' := offT o13' o14 (fun b mb => by
        simp only [List.mem_cons, List.not_mem_nil, or_false] at mb
        rcases mb with z | z
        · exact .inl (by rw [z]; simp only [TW.mut, List.mem_append, List.mem_map]; exact .inr ⟨zB, mB, rfl⟩)
        · exact .inr (by rw [z]; exact nr2))
      refine kf H14 [r1, r2] (fun r mr => by
        simp only [List.mem_cons, List.not_mem_nil, or_false] at mr
        rcases mr with z | z
        · rw [z]; exact nr1
        · rw [z]; exact nr2) o14' ?_
      rw [List.append_assoc] at R14
      refine R14.web ?_ (fun e me => ?_) (by rw [List.length_append]; show bs.length + 1 ≤ 14; have := W3.few; omega) (by omega) (fun k => ?_) (fun e me => ?_)
      · rw [List.map_append]
        exact List.nodup_append.mpr ⟨W3.nd, by simp, fun x mx y my => by simp at my; rw [my]; exact fun z => hnk (by rw [← z]; exact mx)⟩
      · rcases List.mem_append.mp me with me | me
        · exact W3.ok e me
        · rw [List.mem_singleton.mp me]
          exact ⟨by show (0 : Int) ≤ (lo : Int); omega, by show ((lo : Nat) : Int) < (up : Int); omega, by show ((up : Nat) : Int) < (rs.length : Int); omega⟩
      · have hold := hmk k
        obtain ⟨k1, k2⟩ := k
        rw [← hmv, valV_put, valV_put]
        rw [List.map_append, List.mem_append, List.mem_append]
        show _ ↔ (_ ∨ (k1, k2) ∈ [((lo : Int), (up : Int))]) ∨ (_ ∨ (k2, k1) ∈ [((lo : Int), (up : Int))])
        rw [List.mem_singleton, List.mem_singleton]
        by_cases c1 : (k1, k2) = ((up : Int), (lo : Int))
        · rw [if_pos (by rw [c1])]
          refine ⟨fun _ => .inr (.inr ?_), fun _ => ⟨_, rfl⟩⟩
          cases c1; rfl
        · rw [if_neg (kp_ne c1)]
          by_cases c2 : (k1, k2) = ((lo : Int), (up : Int))
          · rw [if_pos (by rw [c2])]
            exact ⟨fun _ => .inl (.inr c2), fun _ => ⟨_, rfl⟩⟩
          · rw [if_neg (kp_ne c2), hold]
            constructor
            · rintro (h | h)
              · exact .inl (.inl h)
              · exact .inr (.inl h)
            · rintro ((h | h) | (h | h))
              · exact .inl h
              · exact absurd h c2
              · exact .inr h
              · exact absurd (by cases h; rfl) c1
      · rw [← hmv] at me
        rcases put_mem me with me | z
        · rcases put_mem me with me | z
          · obtain ⟨r, mr, er⟩ := hmr e me
            exact ⟨r, List.mem_append_left _ mr, er⟩
          · exact ⟨r1, by simp, z⟩
        · exact ⟨r2, by simp, z⟩
end
end K


/-! a house of the web gets another dict of news, another queue -/
namespace K
open PySem PySem.Spec PyProof.Rows L2 LamX SwD
/-- kept but at some places, tables aside -/
def OffN (as : List Addr) (H H' : Hp) : Prop := ∀ b o, H b = some o → (∀ ps, o ≠ .tbl ps) → b ∉ as → H' b = some o
theorem OffN.of {as : List Addr} {H H' : Hp} (h : Off as H H') : OffN as H H' := fun b o e _ nb => h b o e nb
theorem OffN.ext {as : List Addr} {H H' : Hp} (h : ExtN H H') : OffN as H H' := fun b o e n _ => h b o e n
theorem OffN.same {as : List Addr} {H H' : Hp} (h : Same H H') : OffN as H H' := fun b o e _ _ => h b o e
theorem OffN.then {as : List Addr} {H H1 H2 : Hp} (o1 : OffN as H H1) (o2 : OffN as H1 H2) : OffN as H H2 := fun b u e n nb => o2 _ _ (o1 _ _ e n nb) n nb
theorem OffN.sub {as bs : List Addr} {H H' : Hp} (h : OffN as H H') (s : ∀ a ∈ as, a ∈ bs) : OffN bs H H' := fun b o e n nb => h b o e n fun m => nb (s b m)
theorem OffN.put {as : List Addr} {H H' : Hp} {p : Addr} {o : HO} (h : OffN as H H') (hp : p ∈ as) : OffN as H (upd H' p o) := fun b u e n nb => by rw [upd_ne (fun q => nb (by rw [q]; exact hp))]; exact h b u e n nb
section
variable {H H' : Hp} {c : WebC} {a : WebA} {rs : List (Int × Int)} {bs : List Bond} {kb mv : List (List Key × V)} {ro : List Addr} {m : Nat}
theorem HomeT.offN {h : HomeA} {s : SlipA} {i n : Nat} {lo hi : Int} {as : List Addr} (t : HomeT H c h s i lo hi n) (o : OffN as H H') (n1 : ∀ y ∈ h.adr, y ∉ as) (n2 : ∀ y ∈ s.adr, y ∉ as) : HomeT H' c h s i lo hi n := by
  simp only [HomeA.adr, SlipA.adr, List.mem_cons, List.not_mem_nil, or_false] at n1 n2
  have k : ∀ {y u}, H y = some u → (∀ ps, u ≠ .tbl ps) → y ∉ as → H' y = some u := fun e n m => o _ _ e n m
  exact ⟨k t.me (fun ps z => by cases z) (n1 _ (by simp)), ⟨k t.num.1 (fun ps z => by cases z) (n1 _ (by simp)), k t.num.2 (fun ps z => by cases z) (n1 _ (by simp))⟩, k t.sg (fun ps z => by cases z) (n1 _ (by simp)), k t.wt (fun ps z => by cases z) (n1 _ (by simp)), k t.st (fun ps z => by cases z) (n1 _ (by simp)), k t.nw (fun ps z => by cases z) (n1 _ (by simp)), k t.qu (fun ps z => by cases z) (n1 _ (by simp)), k t.sl (fun ps z => by cases z) (n2 _ (by simp)), k t.wh (fun ps z => by cases z) (n2 _ (by simp)), k t.pa (fun ps z => by cases z) (n2 _ (by simp))⟩
theorem Still.ext (t : Still H c a rs m) (e : ExtN H H') : Still H' c a rs m :=
  ⟨e _ _ t.me (fun ps z => by cases z), e _ _ t.hl (fun ps z => by cases z), e _ _ t.bo (fun ps z => by cases z), t.lh, t.ls, t.n8, fun i h r s h1 h2 h3 => ⟨(t.home i h r s h1 h2 h3).1, (t.home i h r s h1 h2 h3).2.offN (as := []) (OffN.ext e) (fun _ _ => by simp) (fun _ _ => by simp)⟩,
    fun s ms => let ⟨kvs, h1, l⟩ := t.told s ms; ⟨kvs, e _ _ h1 (fun ps z => by cases z), l⟩, t.ntd⟩
theorem Raw.ext (w : Raw H c a rs bs kb mv ro m) (e : ExtN H H') : Raw H' c a rs bs kb mv ro m :=
  ⟨w.st.ext e, e _ _ w.b (fun ps z => by cases z), pair_keep w.p (fun y xs h => e _ _ h (fun ps z => by cases z)), e _ _ w.ml (fun ps z => by cases z), fun r mr => let ⟨ls, h1, h2⟩ := w.rows r mr; ⟨ls, e _ _ h1 (fun ps z => by cases z), h2⟩, w.nb, w.nr⟩
theorem TW.ext (t : TW H c a rs bs ro m) (e : ExtN H H') : TW H' c a rs bs ro m := by
  obtain ⟨kb, mv, R, h1, h2, h3⟩ := t.raw
  exact (R.ext e).web t.nd t.ok t.few h1 h2 h3
theorem Raw.hold {s : SlipA} {kvs : List (Key × V)} (w : Raw H c a rs bs kb mv ro m) (ms : s ∈ a.ss) (hk : kvs.length ≤ m) : Raw (upd H s.td (.dK kvs)) c a rs bs kb mv ro m := by
  obtain ⟨ks, h0, _⟩ := w.st.told s ms
  have ne : ∀ {y u}, H y = some u → (∀ kv, u ≠ .dK kv) → upd H s.td (.dK kvs) y = some u := fun e n => by rw [upd_ne (fun q => by rw [q, h0] at e; exact n _ (Option.some.inj e).symm)]; exact e
  exact ⟨w.st.hold ms hk, ne w.b (fun kv z => by cases z), pair_keep w.p (fun y xs h => ne h (fun kv z => by cases z)), ne w.ml (fun kv z => by cases z), fun r mr => let ⟨ls, h1, h2⟩ := w.rows r mr; ⟨ls, ne h1 (fun kv z => by cases z), h2⟩, w.nb, w.nr⟩
def setH (a : WebA) (i : Nat) (h : HomeA) : WebA := { a with hs := a.hs.set i h }
theorem map_set_same {α β : Type} {f : α → β} : ∀ {l : List α} {i : Nat} {x y : α}, l[i]? = some x → f y = f x → (l.set i y).map f = l.map f
  | [], _, _, _, h, _ => by simp at h
  | z :: l, 0, x, y, h, e => by
    simp at h
    simp [e, h]
  | z :: l, i + 1, x, y, h, e => by
    simp at h
    simp only [List.set_cons_succ, List.map_cons]
    rw [map_set_same h e]
def Apart (c : WebC) : Prop := c.W ≠ c.H ∧ c.N ≠ c.H ∧ c.S ≠ c.H
theorem setH_adr {i : Nat} {h : HomeA} {nw qu : Addr} (hi : a.hs[i]? = some h) {y : Addr} (hy : y ∈ (setH a i { h with nw := nw, qu := qu }).adr) : y ∈ a.adr ∨ y = nw ∨ y = qu := by
  simp only [setH, WebA.adr, List.mem_append, List.mem_cons, List.not_mem_nil, or_false, List.mem_flatMap] at hy ⊢
  rcases hy with (hy | ⟨g, mg, my⟩) | hy
  · exact .inl (.inl (.inl hy))
  · rcases List.mem_or_eq_of_mem_set mg with mg | rfl
    · exact .inl (.inl (.inr ⟨g, mg, my⟩))
    · simp only [HomeA.adr, List.mem_cons, List.not_mem_nil, or_false] at my
      rcases my with rfl | rfl | rfl | rfl | rfl | rfl | rfl | rfl
      · exact .inl (.inl (.inr ⟨h, List.mem_of_getElem? hi, by simp [HomeA.adr]⟩))
      · exact .inl (.inl (.inr ⟨h, List.mem_of_getElem? hi, by simp [HomeA.adr]⟩))
      · exact .inl (.inl (.inr ⟨h, List.mem_of_getElem? hi, by simp [HomeA.adr]⟩))
      · exact .inl (.inl (.inr ⟨h, List.mem_of_getElem? hi, by simp [HomeA.adr]⟩))
      · exact .inl (.inl (.inr ⟨h, List.mem_of_getElem? hi, by simp [HomeA.adr]⟩))
      · exact .inl (.inl (.inr ⟨h, List.mem_of_getElem? hi, by simp [HomeA.adr]⟩))
      · exact .inr (.inl rfl)
      · exact .inr (.inr rfl)
  · exact .inl (.inr hy)
theorem Raw.setH {i : Nat} {h : HomeA} {nw qu : Addr} (w : Raw H c a rs bs kb mv ro m) (dc : Apart c) (hi : a.hs[i]? = some h) (h1 : H nw = some (.dK [])) (h2 : H qu = some (.lst [])) (n1 : ∀ s ∈ a.ss, s.td ≠ nw) (n2 : ∀ r ∈ ro, r ≠ qu) :
    Raw (upd H h.x (.ins c.H h.dx (homeF (i : Nat) h.nu h.sg h.wt h.st nw qu))) c (K.setH a i { h with nw := nw, qu := qu }) rs bs kb mv ro m := by
  have il : i < rs.length := by have := (List.getElem?_eq_some_iff.mp hi).1; have := w.st.lh; omega
  have is : i < a.ss.length := by have := w.st.ls; omega
  have q := (w.st.home i h _ _ hi (List.getElem?_eq_getElem il) (List.getElem?_eq_getElem is)).2
  have ne : ∀ {y u}, H y = some u → (∀ dx fs, u ≠ .ins c.H dx fs) → upd H h.x (.ins c.H h.dx (homeF (i : Nat) h.nu h.sg h.wt h.st nw qu)) y = some u := fun e n => by rw [upd_ne (fun z => by rw [z, q.me] at e; exact n _ _ (Option.some.inj e).symm)]; exact e
  have nadr : ∀ {y u}, H y = some u → (∀ s ∈ a.ss, s.td = y → False) ∨ True → y ∉ a.adr → y ≠ nw → y ≠ qu → y ∉ (K.setH a i { h with nw := nw, qu := qu }).adr := fun e _ n3 n4 n5 z => by
    rcases setH_adr hi z with z | z | z
    · exact n3 z
    · exact n4 z
    · exact n5 z
  have knd : ∀ {y z u v}, H y = some u → H z = some v → u ≠ v → y ≠ z := fun e1 e2 n z => n (by rw [z, e2] at e1; exact (Option.some.inj e1).symm)
  refine ⟨⟨ne w.st.me (fun dx fs z => by injection z with z; exact dc.1 z), ?_, ne w.st.bo (fun dx fs z => by cases z), (by show (a.hs.set i _).length = _; rw [List.length_set]; exact w.st.lh), w.st.ls, w.st.n8, fun j g r s e1 e2 e3 => ?_, fun s ms => ?_, fun s ms => ?_⟩, ne w.b (fun dx fs z => by cases z), pair_keep w.p (fun y xs e => ne e (fun dx fs z => by cases z)), ne w.ml (fun dx fs z => by cases z), fun r mr => ?_, ⟨?_, ?_, w.nb.2.2⟩, fun r mr => ?_⟩
  · show upd H h.x _ a.hl = some (.lst ((a.hs.set i { h with nw := nw, qu := qu }).map fun h => V.ref h.x))
    rw [map_set_same (f := fun h : HomeA => V.ref h.x) (y := { h with nw := nw, qu := qu }) hi rfl]
    exact ne w.st.hl (fun dx fs z => by cases z)
  · have e1 : (a.hs.set i { h with nw := nw, qu := qu })[j]? = some g := e1
    rw [List.getElem?_set] at e1
    by_cases ij : i = j
    · subst ij
      rw [if_pos rfl] at e1
      split at e1
      · cases e1
        obtain ⟨gr, q⟩ := w.st.home i h r s hi e2 e3
        exact ⟨gr, upd_same, ⟨ne q.num.1 (fun dx fs z => by injection z with z; exact dc.2.1 z), ne q.num.2 (fun dx fs z => by cases z)⟩, ne q.sg (fun dx fs z => by cases z), ne q.wt (fun dx fs z => by cases z), ne q.st (fun dx fs z => by cases z), ne h1 (fun dx fs z => by cases z), ne h2 (fun dx fs z => by cases z), ne q.sl (fun dx fs z => by injection z with z; exact dc.2.2 z), ne q.wh (fun dx fs z => by cases z), ne q.pa (fun dx fs z => by cases z)⟩
      · cases e1
    · rw [if_neg ij] at e1
      obtain ⟨gr, t⟩ := w.st.home j g r s e1 e2 e3
      have nx : g.x ≠ h.x := fun z => by
        have t1 := t.me
        rw [z, q.me] at t1
        injection t1 with t1
        injection t1 with _ _ t1
        unfold homeF at t1
        injection t1 with t1
        injection t1 with _ t1
        injection t1 with t1
        exact ij (Int.ofNat.inj t1)
      exact ⟨gr, by rw [upd_ne nx]; exact t.me, ⟨ne t.num.1 (fun dx fs z => by injection z with z; exact dc.2.1 z), ne t.num.2 (fun dx fs z => by cases z)⟩, ne t.sg (fun dx fs z => by cases z), ne t.wt (fun dx fs z => by cases z), ne t.st (fun dx fs z => by cases z), ne t.nw (fun dx fs z => by cases z), ne t.qu (fun dx fs z => by cases z), ne t.sl (fun dx fs z => by injection z with z; exact dc.2.2 z), ne t.wh (fun dx fs z => by cases z), ne t.pa (fun dx fs z => by cases z)⟩
  · obtain ⟨kvs, e, l⟩ := w.st.told s ms
    exact ⟨kvs, ne e (fun dx fs z => by cases z), l⟩
  · obtain ⟨kvs, e, l⟩ := w.st.told s ms
    exact nadr e (.inr trivial) (w.st.ntd s ms) (n1 s ms) (knd e h2 (fun z => by cases z))
  · obtain ⟨ls, e, l⟩ := w.rows r mr
    exact ⟨ls, ne e (fun dx fs z => by cases z), l⟩
  · exact nadr w.b (.inr trivial) w.nb.1 (knd w.b h1 (fun z => by cases z)) (knd w.b h2 (fun z => by cases z))
  · exact nadr w.ml (.inr trivial) w.nb.2.1 (knd w.ml h1 (fun z => by cases z)) (knd w.ml h2 (fun z => by cases z))
  · obtain ⟨ls, e, l⟩ := w.rows r mr
    exact nadr e (.inr trivial) (w.nr r mr) (knd e h1 (fun z => by cases z)) (n2 r mr)
end
end K
namespace K
open PySem PySem.Spec PyProof.Rows L2 LamX SwD
theorem pss_no {X : Cx} {ss : List Stmt} : PSs X ss tNever := ⟨fun _ _ _ _ _ _ h => h.elim⟩
theorem pt_no {X : Cx} {e : Expr} : PT X e tNoT := ⟨fun _ _ _ _ _ _ h => h.elim⟩
def gNo : TG := fun _ _ _ _ => False
theorem pg_no {X : Cx} {e : Expr} : PG X e gNo := ⟨fun _ _ _ _ _ _ _ _ _ h => h.elim⟩
end K

/-! a list comprehension whose element may let the exception of a call out -/
namespace SwX
open PySem PySem.Spec PyProof.Rows L2
/-- what the element of a block may let out -/
def Out (X : Cx) (E : XK) (B : Cx) (u : Value) (z : Shared) : Prop := ∃ pi τ G z0, Inv B pi τ G z0 ∧ CX X.prog X.w X.stack G z0 E u z
abbrev bx (X : Cx) (E : XK) (s : Shared) (H : Hp) (scope : Scope) (ce : Env) (fp : List Addr) : Cx := (X.blk s H scope ce fp).wish (Out X E (X.blk s H scope ce fp))
theorem pass_bx {X : Cx} {E : XK} {s : Shared} {H : Hp} {scope : Scope} {ce : Env} {fp : List Addr} : Passes (L2.CX X.prog X.w) (bx X E s H scope ce fp) E :=
  fun pi τ G z0 u z I c => ⟨pi, τ, G, z0, I.unwish, c⟩
theorem cx_more {P : Program} {w : World} {l : List Env} {G : Hp} {z0 z : Shared} {E E' : XK} {u : Value} {m : Str → Option Value} {C : Addr} (hC : G C = none) (hn : z0.heap.Ns C m) (nf : C ∉ frs l) (h : ∀ cls d G', E cls d G' → G' C = none → E' cls d G')
    (c : CX P w l G z0 E u z) : CX P w l G z0 E' u z ∧ z.heap.Ns C m := by
  obtain ⟨a, B, G', cls, d, eu, fl, hok, ub, na, os, ag, q⟩ := c
  obtain ⟨o, es, ep, ho, r⟩ := hn
  exact ⟨⟨a, B, G', cls, d, eu, fl, hok, ub, na, os, ag, h _ _ _ q (ub.free C o ho hC)⟩, o, es, ep, fl.1 C o (ub.keep C o ho hC nf), r⟩
section
variable {X : Cx}
/-- out of the block, in the frame's own hand -/
theorem out_of {W : WX} {E : XK} {pi : List (Addr × Obj)} {σ : L2.St} {G : Hp} {z0 z : Shared} {u : Value} {ce : Env} {m : Str → Option Value} (tk : Takes X W) (hs : X.stack = X.env :: X.outer) (hf : X.env.frame = some X.env.locals) (cf : ce.frame = X.env.frame)
    (hW : ∀ cls d σ H, E cls d H → W cls d σ H) (I : Inv X pi σ G z0) (nC : G ce.locals = none) (hn : z0.heap.Ns ce.locals m) (c1 : ce.locals ≠ X.env.locals) (c2 : ce.locals ∉ frs X.stack) (c3 : ce.locals ∈ X.ex ∨ X.s_0.heap.objs.size ≤ ce.locals)
    (c4 : ∀ x c, X.env.cells.lookup x = some c → c ≠ ce.locals) (c5 : ∀ p ∈ X.pn, p.1 ≠ ce.locals) (c : CX X.prog X.w X.stack G z0 E u z) : notedBy (model X.prog X.w) X.A ce (CompFails (model X.prog X.w) X.A X.xe ce) u z := by
  obtain ⟨cc, hnz⟩ := cx_more (E' := fun cls d G' => E cls d G' ∧ G' ce.locals = none) nC hn c2 (fun _ _ _ q1 q2 => ⟨q1, q2⟩) c
  obtain ⟨a, B, sI, pn2, τ, H, cls, d, eu, J, nb, up, sky, na, os, ag, ⟨hE, hC⟩⟩ := XE.of_call (W := fun cls d _ H => E cls d H ∧ H ce.locals = none) I (fun _ _ _ q => q) cc
  subst eu
  have J : Inv X [] τ H sI := J.unpinned (pins := []) (pl := pn2)
  have hfr : X.A.frames = some (X.env :: X.outer) := by rw [J.ok.frames, hs]
  rw [hs] at sky
  have onward : ∀ h1, HandSPX.HeldZ B (X.env :: X.outer) a (Zc cls d) X.env.locals h1 → z.heap.UpToSlots h1 → CompFails (model X.prog X.w) X.A X.xe ce (.ref a) { z with heap := h1 } := by
    intro h1 hh u1
    have n1 : h1.Ns ce.locals m := hnz.upToSlots u1
    refine ⟨m, n1, fun h2 m2 n2 sb => ?_⟩
    obtain ⟨g1, g2, g3, oe, vs, T, oT, ts, e1, e2, e3, e4, e5, e6, e7, e8, e9⟩ := hh
    obtain ⟨oC, es, ep, hoC, hdC, _⟩ := n1
    have noC : ∀ {b : Addr} {o : Obj} {vs : Array Value}, h1.get? b = some o → o.data = .fields vs → b ≠ ce.locals := fun {b o vs} p q r => by
      rw [r, hoC] at p
      cases p
      rw [hdC] at q
      cases q
    have hid : ∀ {h : Heap} {b : Addr}, h.get? b = none → (PySem.W.hideAll h [ce.locals]).get? b = none := fun {h b} p => by
      cases q : (PySem.W.hideAll h [ce.locals]).get? b with
      | none => rfl
      | some o => rw [PySem.W.of_hideAll _ q] at p; cases p
    have hidC : ∀ {h : Heap} {b : Addr} {o : Obj}, (PySem.W.hideAll h [ce.locals]).get? b = some o → b ≠ ce.locals := fun {h b o} p q => by
      rw [q, PySem.W.hideAll_none _ (by simp)] at p
      cases p
    have st2 : (PySem.W.hideAll B [ce.locals]).StaysIn h2 := fun b o p => (sb.2 b (hidC p)).trans (g1 b o (PySem.W.of_hideAll _ p))
    have ff2 : h2.FunFrames (PySem.W.hideAll B [ce.locals]) (X.env :: X.outer) := funFrames_none (Heap.FunFrames.sameBut sb n2 g3) fun b hb => hid (g3.mem hb).1
    have e1' := (sb.2 a (noC e1 e3)).trans e1
    have e7' := (sb.2 T (noC e7 e8)).trans e7
    have tr2 : HandSPX.TracedZ h2 (PySem.W.hideAll B [ce.locals]) a (Zc cls d) (rawInt X.env.locals) := ⟨oe, vs, T, oT, ts, e1', e2, e3, e4, hid e5, e6, e7', e8, e9⟩
    have hd2 : HandSPX.HeldZ (PySem.W.hideAll B [ce.locals]) (X.env :: X.outer) a (Zc cls d) X.env.locals h2 := ⟨st2, hid g2, ff2, tr2⟩
    unfold PySem.passOn
    refine wpAny_bind (wpAny_field e1' e3 e4 ?_)
    rw [if_neg (by simp), cf, hf]
    refine wpAny_bind (HandSPX.setFlight_onZ hd2 fun h3 hd3 u3 => wpAny_throw ?_)
    refine tk _ _ ⟨a, PySem.W.hideAll B [ce.locals], { sI with heap := PySem.W.hideAll sI.heap [ce.locals] }, [], τ, H, cls, d, rfl, ?_, ?_, ?_, ?_, na, os, ag, hW _ _ _ _ hE⟩
    · exact J.turned (t' := sI.toks) (fun b o hb e => PySem.W.hideAll_get _ e (by simp [hb])) hC c1 c3 c4 (fun p hp => c5 p (by simpa using hp))
    · intro b o e hb
      exact PySem.W.hideAll_get _ (nb b o (PySem.W.of_hideAll _ e) hb) (by simp [hidC e])
    · intro b o e hnf
      obtain ⟨s1, k1⟩ := up b o (PySem.W.of_hideAll _ e) hnf
      obtain ⟨s2, k2⟩ := u1 b _ k1 hnf
      obtain ⟨s3, k3⟩ := u3 b _ ((sb.2 b (hidC e)).trans k2) hnf
      exact ⟨s3, k3⟩
    · rw [hs]
      exact .inr (.inr hd3)
  show wpAny _ _ (noteFrame (.ref a) ce) _ _ z
  rw [noteFrame_env _ cf]
  rcases sky with ⟨hB, hn0, hl, oe, vs, he, hz, hd, h1⟩ | fl | hh
  · exact HandSPX.look_newZ Zc.steady hfr hl hf he hB hn0 hd h1 hz onward
  · exact HandSPX.looks_onZ Zc.steady hfr hf fl onward
  · exact HandSPX.againZ hf hh.2.2.2 (onward z.heap hh (Heap.UpToSlots.refl _))
theorem more {α : Type} {t : Sem α} {Q Q' : α → Shared → Prop} {M : Model} {A : Around} {E E' : Value → Shared → Prop} {s : Shared} (h : wpAny M A t Q E s) (hQ : ∀ a s, Q a s → Q' a s) (hE : ∀ a s, E a s → E' a s) : wpAny M A t Q' E' s := wpAny_mono h hQ hE
/-- [elt for tg in iter if ifs] as a value, its element a call's exception may leave -/
theorem pe_lcX {elt tg iter : Expr} {ifs : List Expr} {scope : Scope} {own : List (Str × Nat)} {pos : Pos} {wi : TI} {g : TG} {tt : TT} {te : TE} {W : WX} {E : XK} (tk : Takes X W) (hW : ∀ cls d σ H, E cls d H → W cls d σ H) (hst : X.stack = X.env :: X.outer) (hf : X.env.frame = some X.env.locals)
    (hc : X.calm = true) (hN : X.N.Nodup) (hi : PI X tg iter wi) (ok : BlkOk X.N X.env.scope scope own)
    (hg : ∀ (s : Shared) (H : Hp) (C : Addr) (cl : List (Str × Addr)) (fp : List Addr), PG (bx X E s H scope (compEnvC scope cl C X.env) fp) tg g)
    (ht : ∀ (s : Shared) (H : Hp) (C : Addr) (cl : List (Str × Addr)) (fp : List Addr), PTs (bx X E s H scope (compEnvC scope cl C X.env) fp) ifs tt)
    (he : ∀ (s : Shared) (H : Hp) (C : Addr) (cl : List (Str × Addr)) (fp : List Addr), PE (bx X E s H scope (compEnvC scope cl C X.env) fp) elt te) (hs : ∀ x, foldedSetIterable iter X.env x = pure x := by intro _; rfl) :
    PE X (.ListComp elt [⟨tg, iter, ifs, 0⟩] scope pos) (tLc wi g tt te (own.map (·.2))) := by
  refine ⟨fun pins s σ H Q I h => ?_⟩
  rw [eval_ListComp]
  have cells : ∀ y ∈ scope.names, y.2 = .free → ∃ c, X.env.cells.lookup y.1 = some c := fun y hy e => (ok.free y hy e).elim (fun k => I.ok.has _ (.inl k)) (fun k => I.ok.has _ (.inr k))
  refine comprehension_at (use := none) rfl hs (closure_ok cells) ok.kind (fun y hy e => by rw [ok.uniq y hy, e]) (thn (hi.run pins s σ H _ I h) fun xv s1 hx => thn hx fun itv s2 hit => ?_)
  obtain ⟨it, fp, tn, J, H2, eit, I2, T, st2, f2, q⟩ := hit
  subst eit
  refine wpAny_newObj_type (newEnv_comp ?_) (by show 0 ≤ sizeLine; decide)
  generalize hD : s2.heap.objs.size = D
  obtain ⟨Wt, ⟨m0, w0⟩, turn⟩ := q D (I2.hok.fresh (Nat.le_of_eq hD))
  generalize es3 : ({ s2 with heap := s2.heap.push { cls := .type "list", data := .seq ([] : List Value).toArray } } : Shared) = s3
  have hp3 : s3.heap = s2.heap.push { cls := .type "list", data := .seq ([] : List Value).toArray } := by rw [← es3]
  have I3 : Inv X pins σ (upd H2 D (.lst [])) s3 := by
    rw [← es3]
    exact I2.laid (t' := s2.toks) (fun b o e => Heap.get?_push_of_some _ e) (Nat.le_of_eq hD) ⟨Nat.zero_le _, [], 0, .nil, by rw [← hD]; exact Heap.get?_push_size _ rfl⟩
  have small : ∀ b ∈ fp, b < s2.heap.objs.size := fun b hb => let ⟨o, e, _⟩ := T.obj _ _ st2 b hb; Heap.lt_size e
  have f3 : ∀ b ∈ fp, FpOk X pins (upd H2 D (.lst [])) b ∧ b < s3.heap.objs.size := fun b hb => by
    have lt := small b hb
    refine ⟨⟨?_, (f2 b hb).2⟩, by rw [hp3, Heap.size_push]; exact Nat.lt_succ_of_lt lt⟩
    rw [upd_ne (fun z => by rw [← hD] at z; exact absurd lt (by rw [z]; exact Nat.lt_irrefl _))]
    exact (f2 b hb).1
  have st3 : tn 0 s3.heap := T.keep _ _ _ st2 fun b _ o e => by rw [hp3]; exact Heap.get?_push_of_some _ e
  have I4 := block_start I3 ok hN f3
  have pg := hg s3 (upd H2 D (.lst [])) s3.heap.objs.size (cellsFrom (s3.heap.objs.size + 1) scope.names (cloFrom X.env.cells scope.names [])) fp
  have pt := ht s3 (upd H2 D (.lst [])) s3.heap.objs.size (cellsFrom (s3.heap.objs.size + 1) scope.names (cloFrom X.env.cells scope.names [])) fp
  have pe := he s3 (upd H2 D (.lst [])) s3.heap.objs.size (cellsFrom (s3.heap.objs.size + 1) scope.names (cloFrom X.env.cells scope.names [])) fp
  show codeAny _ _ (.compStart (.ListComp elt [⟨tg, iter, ifs, 0⟩] scope pos) 0 (.ref it) (.ref D) (compEnvC scope (cellsFrom (s3.heap.objs.size + 1) scope.names (cloFrom X.env.cells scope.names [])) s3.heap.objs.size X.env))
    (compEnds (model X.prog X.w) X.A X.xe none (EP X pins σ Q) (.ref D) (compEnvC scope (cellsFrom (s3.heap.objs.size + 1) scope.names (cloFrom X.env.cells scope.names [])) s3.heap.objs.size X.env)) { s3 with heap := pushCells (s3.heap.push { cls := .type "dict", data := .dict #[] }) scope.names }
  have nfp : ∀ b ∈ fp, (upd H2 D (.lst [])) b = none := fun b hb => (f3 b hb).1.1
  have cfr : (compEnvC scope (cellsFrom (s3.heap.objs.size + 1) scope.names (cloFrom X.env.cells scope.names [])) s3.heap.objs.size X.env).frame = X.env.frame := rfl
  have cL : (compEnvC scope (cellsFrom (s3.heap.objs.size + 1) scope.names (cloFrom X.env.cells scope.names [])) s3.heap.objs.size X.env).locals = s3.heap.objs.size := rfl
  generalize compEnvC scope (cellsFrom (s3.heap.objs.size + 1) scope.names (cloFrom X.env.cells scope.names [])) s3.heap.objs.size X.env = ce at I4 pg pt pe cfr cL ⊢
  generalize upd H2 D (.lst []) = H3 at I3 I4 pg pt pe w0 nfp f3
  generalize es4 : ({ s3 with heap := pushCells (s3.heap.push { cls := .type "dict", data := .dict #[] }) scope.names } : Shared) = s4 at I4 ⊢
  have st4 : tn 0 s4.heap := T.keep _ _ _ st3 fun b _ o e => by rw [← es4]; exact pushCells_keeps _ _ _ _ (Heap.get?_push_of_some _ e)
  have I4 : Inv (bx X E s3 H3 scope ce fp) [] (wipe σ (own.map (·.2))) H3 s4 := I4.wish _
  have stat : ∀ {τ : L2.St} {G : Hp} {z : Shared}, Inv (bx X E s3 H3 scope ce fp) [] τ G z → (∀ b ∈ fp, G b = none) → ∀ b ∈ fp, FpOk (bx X E s3 H3 scope ce fp) [] G b := fun {τ G z} K hn b hb =>
    ⟨hn b hb, (K.ok.exf b hb).1, K.ok.exfs b hb, .inl hb, fun x c e => (K.ok.exf b hb).2 x c e, fun p hp => absurd (show p ∈ ([] : List (Addr × Obj)) ++ [] from hp) (by simp)⟩
  have back : ∀ {pi : List (Addr × Obj)} {τ : L2.St} {G : Hp} {z : Shared}, Inv (X.blk s3 H3 scope ce fp) pi τ G z → Inv X pins σ G z := fun {pi τ G z} K =>
    I3.call' (ch := fp) K.os K.base K.hok K.bare fun b hb => ⟨(f3 b hb).1.2.2.2.1, (f3 b hb).1.2.1, (f3 b hb).1.2.2.2.2.1, (f3 b hb).1.2.2.2.2.2⟩
  have atC : ∀ {G : Hp}, G ce.locals = none → FpOk X pins G ce.locals := fun {G} n => I3.fpOk (by rw [cL]; exact Nat.le_refl _) n
  have nst : ce.locals ∉ frs X.stack := fun hm => by
    obtain ⟨_, o, ho, _⟩ := I3.stack.mem hm
    have := Heap.lt_size ho
    rw [cL] at this
    exact Nat.lt_irrefl _ this
  have flee : ∀ u z, (bx X E s3 H3 scope ce fp).xe u z → notedBy (model X.prog X.w) X.A ce (fun e z' => compEnds (model X.prog X.w) X.A X.xe none (EP X pins σ Q) (.ref D) ce (.error e) z') u z := by
    rintro u z ⟨pi, τ, G, z0, K, c⟩
    obtain ⟨m, hn, _⟩ := K.loc
    have nG : G ce.locals = none := K.free
    obtain ⟨_, b1, b2, b3, b4, b5⟩ := atC nG
    exact out_of tk hst hf cfr hW (back K) nG hn b1 nst b3 b4 (fun p hp => b5 p (List.mem_append_left _ hp)) c
  have loop : codeAny (model X.prog X.w) X.A (.compLoop (.ListComp elt [⟨tg, iter, ifs, 0⟩] scope pos) 0 (.ref it) (.ref D) ce) (compEnds (model X.prog X.w) X.A X.xe none (EP X pins σ Q) (.ref D) ce) s4 := by
    refine compLoop_any (fun n z => ∃ i G, Inv (bx X E s3 H3 scope ce fp) [] (wipe σ (own.map (·.2))) G z ∧ tn i z.heap ∧ (∀ b ∈ fp, G b = none) ∧ Wt i n G) ?_ m0 ⟨0, H3, I4, st4, nfp, w0⟩
    rintro n s5 ⟨i, H5, I5, st5, n5, w5⟩
    rcases turn i n H5 w5 with ⟨stop, qq⟩ | ⟨go, Nx, hNx, step⟩
    · refine thnF (T.done (bx X E s3 H3 scope ce fp) rfl rfl rfl hc i [] s5 _ H5 (fun _ _ => False) I5 (stat I5 n5) st5 stop) fun r s6 ⟨hr, I6⟩ => ?_
      subst hr
      have I6 := I6.unwish
      obtain ⟨m, hn, _⟩ := I6.loc
      obtain ⟨b0, b1, b2, b3, b4, b5⟩ := atC (G := H5) I6.free
      refine ⟨m, hn, fun h'' sb => ?_⟩
      exact ⟨.ref D, H5, (back I6).turned (t' := s6.toks) (fun b o hb e => (sb.2 b hb).trans e) b0 b1 b3 b4 b5, rfl, qq⟩
    · refine thnF (T.item (bx X E s3 H3 scope ce fp) rfl rfl rfl hc i [] s5 _ H5 (fun _ _ => False) I5 (stat I5 n5) st5 go) fun r s6 ⟨v, hr, h6⟩ => ?_
      subst hr
      refine thnF h6 fun _ s7 ⟨x, H7, I7, r7, y7, st7, n7⟩ => ?_
      refine more (pg.run _ s7 _ H7 x v _ (I7.pinned (stat I7 n7) (T.obj _ _ st7)) r7 (step x H7 y7)) (fun _ s8 ⟨σ8, H8, I8, hw8, q8⟩ => ?_) flee
      refine more (pt.run _ s8 σ8 H8 _ I8 q8) (fun b s9 ⟨H9, I9, q9⟩ => ?_) flee
      have fin : ∀ {z : Shared} {G : Hp}, Inv (bx X E s3 H3 scope ce fp) ([] ++ pinsAt fp s7.heap) σ8 G z → Nx G → ∃ m, m < n ∧ ∃ i G, Inv (bx X E s3 H3 scope ce fp) [] (wipe σ (own.map (·.2))) G z ∧ tn i z.heap ∧ (∀ b ∈ fp, G b = none) ∧ Wt i m G := fun {z G} K nx => by
        obtain ⟨m', lt, w'⟩ := hNx G nx
        have pin' : ∀ b ∈ fp, ∀ o, s7.heap.get? b = some o → z.heap.get? b = some o ∧ G b = none := fun b hb o e => by
          have q := K.pin (b, o) (List.mem_append_right _ (List.mem_append_right _ (mem_pinsAt hb e)))
          exact ⟨q.1, q.2.1⟩
        refine ⟨m', lt, i + 1, G, (K.unpinned (pins := [])).weak (by rw [← hw8, wipe_length]) (fun j v e => ?_), T.keep _ _ _ st7 fun b hb o e => (pin' b hb o e).1, fun b hb => ?_, w'⟩
        · rw [← hw8] at e
          exact (wipe_some e).1
        · obtain ⟨o, e, _⟩ := T.obj _ _ st7 b hb
          exact (pin' b hb o e).2
      cases b with
      | false => exact fin I9 q9
      | true => exact more (pe.run _ s9 σ8 H9 _ I9 q9) (fun y s10 ⟨yv, H10, I10, r10, acc, hD10, hz10, nx⟩ => app_ok (X := bx X E s3 H3 scope ce fp) I10 hD10 hz10 r10 fun s11 I11 => fin I11 nx) flee
  exact codeAny_compStart_list loop (T.self X.A 0 _ _ _ st4 loop)
end
end SwX

/-! _law_why(lambda: ..): what the clauses wish, whatever the frame holds -/
namespace L2
open PySem PySem.Spec PyProof.Rows
/-- e.f of the caught exception, whatever its class is -/
def tXg (K : PySem.W.Frag) (a : Addr) (cls : Value) (d : Option Addr) (f : Str) (te : TE) : TE := fun σ H Q => ∃ C, XfC K C ∧ PySem.W.findIn K (.ref C) f = some none ∧ tXf a cls d C f te σ H Q
theorem pe_xg {X : Cx} {a : Addr} {oe : Obj} {cls : Value} {d : Option Addr} {pn : List (Addr × Obj)} {e : Expr} {te : TE} {pos : Pos} {n : Str} (hz : Zc cls d oe) (hf : ∃ vs, oe.data = .fields vs) (he : PE (X.suite a ((a, oe) :: pn)) e te) (hb : attributeBase e n X.env (eval e X.env) = eval e X.env := by rfl) :
    PE (X.suite a ((a, oe) :: pn)) (.Attribute e n pos) (tXg X.K a cls d n te) :=
  ⟨fun pins s σ H Q I ⟨C, T, hno, h⟩ => (pe_xf T hno hz hf he hb).run pins s σ H Q I h⟩
/-- a block's reading asked only where the frame has n slots: it always has -/
def tLen (n : Nat) (t : TS) : TS := fun D σ H => σ.length = n → t D σ H
theorem pss_len {X : Cx} {b : List Stmt} {t : TS} {n : Nat} (h : PSs X b t) (hn : X.N.length = n) : PSs X b (tLen n t) := ⟨fun pins s σ H D I k => h.run pins s σ H D I (k (I.len.trans hn))⟩
end L2

/-! a lambda as a value that is kept, with a default or without; called in a def, out of a comprehension -/
namespace LamV
open PySem PySem.Spec PyProof.Rows L2 LamX
/-- the lambda's function, its defaults at dV -/
abbrev lfn (q : Str) (params : Arguments) (body : Expr) (scope : Scope) (cl : List (Str × Addr)) (pm cdv ct dV : Value) : FuncData := { PySem.W.kla_fn "<lambda>" q params body scope cl pm cdv ct with defaults := dV }
def LamO (f : Addr) (q : Str) (params : Arguments) (body : Expr) (scope : Scope) (cl : List (Str × Addr)) (c' : Addr) (dV : Value) : HO :=
  .ext fun h => ∃ pm ctv, h.get? f = some { cls := .type "function", data := .func (lfn q params body scope cl pm (.ref c') ctv dV) }
theorem lamO_ok {P : Program} {w : World} {H : Hp} {h : Heap} {f c' : Addr} {q : Str} {params : Arguments} {body : Expr} {scope : Scope} {cl : List (Str × Addr)} {pm ctv dV : Value} (e : h.get? f = some { cls := .type "function", data := .func (lfn q params body scope cl pm (.ref c') ctv dV) }) :
    ObjOk P w H h f (LamO f q params body scope cl c' dV) := ⟨⟨pm, ctv, e⟩, ⟨_, e⟩, fun _ _ ⟨pm, ctv, z⟩ k => ⟨pm, ctv, k _ z⟩⟩
theorem lamO_ne {f c' : Addr} {q : Str} {params : Arguments} {body : Expr} {scope : Scope} {cl : List (Str × Addr)} {dV : Value} (ps : Array Value) : LamO f q params body scope cl c' dV ≠ .tbl ps := fun z => by
  unfold LamO at z
  cases z
section
variable {M : Model} {A : Around} {E : Value → Shared → Prop} {s : Shared} {q : Str} {params : Arguments} {body : Expr} {scope : Scope} {env : Env} {c P : Addr} {ps : Array Value} {pos : Pos} {ln : Nat} {mg : Str → Option Value} {y0 : Str × Addr} {ys : List (Str × Addr)} {Q : Value → Shared → Prop} {dV : Value}
/-- makeFunction's end for a lambda that captures something -/
theorem tail_of (hcl : closureFor scope env = pure (y0 :: ys)) (hge : env.globals = mainGlobals) (hg : s.heap.Ns mainGlobals mg) (hco : env.code = .ref c) (C : PySem.W.CodeHd s.heap c P) (hP : s.heap.get? P = some { cls := .none, data := .fields ps }) (ht : TriplesOk ps.toList) (hgP : mainGlobals ≠ P) (hb : s.heap.BuiltinsAt mg P)
    (new : codeAmong pos ps.toList = none → ∀ (c' : Addr) (ctv : Value) (h' : Heap) (tk : Tok), Heap.ExtBut P s.heap h' → s.heap.objs.size ≤ c' → c' < h'.objs.size → h'.CodeRec (.ref c') q → h'.get? P = some { cls := .none, data := .fields (ps ++ #[rawInt pos.line, rawInt pos.col, .ref c']) } →
      Q (.ref h'.objs.size) { s with heap := h'.push { cls := .type "function", data := .func (lfn q params body scope (y0 :: ys) ((mg "__name__").getD .none) (.ref c') ctv dV) }, toks := tk })
    (hit : ∀ cv, codeAmong pos ps.toList = some cv → ∀ (ctv : Value) (h' : Heap) (tk : Tok), (∀ b o, s.heap.get? b = some o → h'.get? b = some o) → s.heap.objs.size ≤ h'.objs.size →
      Q (.ref h'.objs.size) { s with heap := h'.push { cls := .type "function", data := .func (lfn q params body scope (y0 :: ys) ((mg "__name__").getD .none) cv ctv dV) }, toks := tk }) :
    wpAny M A (makeTail "<lambda>" q params (.expr body) scope env dV .none none pos ln) Q E s := by
  obtain ⟨bm, ob, i1, i2, _, i4, i5, i6, i7, i8⟩ := hb
  have up : ∀ {oT : Obj} b o, s.heap.get? b = some o → (s.heap.push oT).get? b = some o := fun b o e => Heap.get?_push_of_some _ e
  unfold makeTail
  rw [hcl, hge]
  refine wpAny_bind (wpAny_pure ?_)
  rw [if_neg (by simp)]
  refine wpAny_bind (wpAny_newTextTuple ?_)
  cases hc : codeAmong pos ps.toList with
  | none =>
    refine wpAny_bind (wpAny_functionCodeX hco ((C.keeps up).code (up _ _ hP) ht) ((C.keeps up).tab (up _ _ hP)) hc fun c' h' tk hx k1 k2 _ hrec htb _ => ?_)
    have g2 := (hg.push _).extBut hx hgP
    have hx2 : Heap.ExtBut P s.heap h' := fun b o hb e => hx b o hb (up _ _ e)
    refine wpAny_bind (wpAny_builtinsFor g2 i1 i2 (hx2 _ _ i4 i5) i6 i7 i8 ?_)
    refine wpAny_bind (wpAny_nsGet g2 ?_)
    refine wpAny_bind (wpAny_pure (wpAny_newObj_type (new hc c' _ h' tk hx2 (Nat.le_trans ?_ k1) k2 hrec htb.2) (by size_fits)))
    rw [Heap.size_push]
    exact Nat.le_succ _
  | some cv =>
    refine wpAny_bind (wpAny_functionCode_hit hco ((C.keeps up).code (up _ _ hP) ht) hc ?_)
    refine wpAny_bind (wpAny_builtinsFor (hg.push _) i1 i2 (up _ _ i5) i6 i7 i8 ?_)
    refine wpAny_bind (wpAny_nsGet (hg.push _) ?_)
    refine wpAny_bind (wpAny_pure (wpAny_newObj_type (hit cv hc _ _ s.toks up ?_) (by size_fits)))
    rw [Heap.size_push]
    exact Nat.le_succ _
end
section
variable {X : Cx} {pins : List (Addr × Obj)} {σ : L2.St} {H : Hp} {s : Shared}
/-- the function is laid -/
theorem lam_laid {T : List (Addr × Str)} {c P : Addr} {params : Arguments} {body : Expr} {scope : Scope} {pos : Pos} {ln : Nat} {E : Value → Shared → Prop} {Q : Value → Shared → Prop} {dV : Value} {y0 : Str × Addr} {ys : List (Str × Addr)} (I : Inv X pins σ H s) (TB : TabB X.base X.mg c P) (hcode : X.env.code = .ref c) {q : Str}
    (hm : (P, q) ∈ T) (hu : ∀ p ∈ T, p.1 = P → p.2 = q) (hT : Tabs T H) (hcl : closureFor scope X.env = pure (y0 :: ys))
    (h : ∀ (f c' : Addr) (H1 : Hp) (s' : Shared), Inv X pins σ (upd H1 f (LamO f q params body scope (y0 :: ys) c' dV)) s' → ExtN H H1 → Tabs T H1 → H1 f = none → H1 c' = some (CodeO c' q) → Q (.ref f) s') :
    wpAny (model X.prog X.w) X.A (makeTail "<lambda>" q params (.expr body) scope X.env dV .none none pos ln) Q E s := by
  obtain ⟨ps, hP, ht, ha⟩ := hT _ hm
  have hP' : s.heap.get? P = some { cls := .none, data := .fields ps } := I.hok P _ hP
  refine tail_of (mg := X.mg) hcl I.ok.glob (I.mod.glob.keeps I.bk) hcode (TB.code.keeps I.bk) hP' ht TB.gP (TB.bm.keeps I.bk) (fun hc c' ctv h' tk hx k1 k2 hrec htb => ?_) (fun cv hc ctv h' tk kp hsz => ?_)
  · obtain ⟨c2, oc, vs, t, e2, hoc, hd, hv⟩ := hrec
    cases e2
    have hsz : s.heap.objs.size ≤ h'.objs.size := Nat.le_trans k1 (Nat.le_of_lt k2)
    have nC : H c' = none := I.hok.fresh k1
    have I1 := inv_table (t' := tk) (more := #[rawInt pos.line, rawInt pos.col, .ref c']) (h' := h') I hP hx htb k1 ⟨oc, vs, t, hoc, hd, hv⟩
    have ex : ExtN H (upd (upd H P (.tbl (ps ++ #[rawInt pos.line, rawInt pos.col, .ref c']))) c' (CodeO c' q)) := fun b o e n => by
      rw [upd_ne (ne_of_none e nC), upd_ne (fun z => n ps (by rw [z, hP] at e; exact (Option.some.inj e).symm))]
      exact e
    have eL : (ps ++ #[rawInt pos.line, rawInt pos.col, .ref c']).toList = ps.toList ++ [rawInt pos.line, rawInt pos.col, .ref c'] := by simp
    refine h h'.objs.size c' _ _ (I1.laid (t' := tk) (fun b u e => Heap.get?_push_of_some _ e) (Nat.le_refl _) (lamO_ok (Heap.get?_push_size _ rfl))) ex (fun p hp => ?_) ?_ upd_same
    · by_cases hb : p.1 = P
      · rw [hu p hp hb, hb]
        refine ⟨_, by rw [upd_ne (ne_of_none hP nC), upd_same], by rw [eL]; exact PySem.TriplesOk_snoc _ _ _ _ ht, fun p' cv hcv => ?_⟩
        rw [eL] at hcv
        rcases among_app _ ht hcv with z | z
        · obtain ⟨c0, e1, e2⟩ := ha p' cv z
          exact ⟨c0, e1, ex _ _ e2 codeO_ne⟩
        · exact ⟨c', z, upd_same⟩
      · obtain ⟨ps', a1, a2, a3⟩ := hT p hp
        refine ⟨ps', by rw [upd_ne (ne_of_none a1 nC), upd_ne hb]; exact a1, a2, fun p' cv hcv => ?_⟩
        obtain ⟨c0, e1, e2⟩ := a3 p' cv hcv
        exact ⟨c0, e1, ex _ _ e2 codeO_ne⟩
    · exact I1.hok.fresh (Nat.le_refl _)
  · obtain ⟨c', e, hco⟩ := ha pos cv hc
    subst e
    refine h h'.objs.size c' H _ (I.laid (t' := tk) (fun b u e => Heap.get?_push_of_some _ (kp b u e)) hsz (lamO_ok (Heap.get?_push_size _ rfl))) (ExtN.refl H) hT (I.hok.fresh hsz) hco
def tLam0 (T : List (Addr × Str)) (q : Str) (params : Arguments) (body : Expr) (scope : Scope) (cl : List (Str × Addr)) : TE := fun σ H Q => Tabs T H ∧ ∀ f c' H1, ExtN H H1 → Tabs T H1 → H1 f = none → H1 c' = some (CodeO c' q) → Q (.ref f) (upd H1 f (LamO f q params body scope cl c' .none))
/-- lambda: body, kept -/
theorem pe_lam0 {T : List (Addr × Str)} {c P : Addr} {params : Arguments} {body : Expr} {scope : Scope} {pos : Pos} {q : Str} (TB : TabB X.base X.mg c P) (hcode : X.env.code = .ref c) (hq : X.env.qual ++ "<lambda>" = q)
    (hm : (P, q) ∈ T) (hu : ∀ p ∈ T, p.1 = P → p.2 = q) (hdef : defaultsOf params X.env = ([], [])) (hfree : ∀ y ∈ scope.names, y.2 = .free → X.env.scope.names.lookup y.1 = some .cell) (hcl : ∃ y0 ys, cloFrom X.env.cells scope.names [] = y0 :: ys) : PE X (.Lambda params body scope pos) (tLam0 T q params body scope (cloFrom X.env.cells scope.names [])) := by
  obtain ⟨y0, ys, hcl⟩ := hcl
  refine ⟨fun pins s σ H Q I hh => ?_⟩
  unfold tLam0 at hh
  rw [hcl] at hh
  obtain ⟨hT, h⟩ := hh
  refine PySem.W.kla_eval hdef ?_
  rw [makeFunction_eq]
  simp only [List.zip_nil_right, List.filterMap_nil, List.isEmpty_nil, if_true, pure_bind]
  rw [hq]
  refine lam_laid I TB hcode hm hu hT ((closure_ok fun y hy e => I.ok.has _ (.inl (hfree y hy e))).trans (by rw [hcl])) fun f c' H1 s' I1 e1 t1 nf hco => ?_
  exact ⟨.ref f, _, I1, rfl, h f c' H1 e1 t1 nf hco⟩
def tLam1 (T : List (Addr × Str)) (q : Str) (params : Arguments) (body : Expr) (scope : Scope) (cl : List (Str × Addr)) (n : Int) : TE := fun σ H Q => Tabs T H ∧ ∀ t f c' H0 H1, H t = none → H0 = upd H t (.tup [.int n]) → ExtN H0 H1 → Tabs T H1 → H1 f = none → H1 c' = some (CodeO c' q) → Q (.ref f) (upd H1 f (LamO f q params body scope cl c' (.ref t)))
/-- lambda a=n: body, kept -/
theorem pe_lam1 {T : List (Addr × Str)} {c P : Addr} {params : Arguments} {body e : Expr} {scope : Scope} {pos : Pos} {q : Str} {n : Int} (TB : TabB X.base X.mg c P) (hcode : X.env.code = .ref c) (hq : X.env.qual ++ "<lambda>" = q)
    (hm : (P, q) ∈ T) (hu : ∀ p ∈ T, p.1 = P → p.2 = q) (hdef : defaultsOf params X.env = ([eval e X.env], [])) (he : PE X e (tC (.int n))) (hfree : ∀ y ∈ scope.names, y.2 = .free → X.env.scope.names.lookup y.1 = some .cell) (hcl : ∃ y0 ys, cloFrom X.env.cells scope.names [] = y0 :: ys) : PE X (.Lambda params body scope pos) (tLam1 T q params body scope (cloFrom X.env.cells scope.names []) n) := by
  obtain ⟨y0, ys, hcl⟩ := hcl
  refine ⟨fun pins s σ H Q I hh => ?_⟩
  unfold tLam1 at hh
  rw [hcl] at hh
  obtain ⟨hT, h⟩ := hh
  rw [arm_eval_Lambda, hdef]
  show wpAny _ _ (do let dv ← evalAll [eval e X.env]; let kdv ← holding dv (evalAllOpt []); makeFunction "<lambda>" (X.env.qual ++ "<lambda>") params (.expr body) scope X.env dv kdv [] pos pos.line) _ _ s
  unfold evalAll
  refine wpAny_bind (wpAny_bind (thn (he.run pins s σ H (fun v H' => v = .int n ∧ H' = H) I ⟨rfl, rfl⟩) fun u s1 ⟨v, H', I1, r, ev, eH⟩ => ?_))
  subst ev
  subst eH
  refine wpAny_bind (wpAny_holding (wpAny_pure (wpAny_pure (wpAny_bind (wpAny_holding (wpAny_pure ?_))))))
  rw [makeFunction_eq]
  simp only [List.zip_nil_right, List.filterMap_nil, List.isEmpty_nil, List.isEmpty_cons, if_true, Bool.false_eq_true, if_false, pure_bind]
  refine wpAny_bind (wpAny_newTextTuple ?_)
  rw [hq]
  have nt : H' s1.heap.objs.size = none := I1.hok.fresh (Nat.le_refl _)
  have I2 : Inv X pins σ (upd H' s1.heap.objs.size (.tup [.int n])) { s1 with heap := s1.heap.push { cls := .type "tuple", data := .seq [u].toArray } } :=
    I1.laid (t' := s1.toks) (fun b u e => Heap.get?_push_of_some _ e) (Nat.le_refl _) ⟨(by show 1 ≤ sizeLine; decide), [u], .cons r .nil, ⟨_, Heap.get?_push_size _ rfl, rfl, _, rfl⟩⟩
  refine lam_laid I2 TB hcode hm hu (Tabs.ext hT fun b o e => by rw [upd_ne (ne_of_none e nt)]; exact e) ((closure_ok fun y hy e => I2.ok.has _ (.inl (hfree y hy e))).trans (by rw [hcl])) fun f c' H1 s' I3 e1 t1 nf hco => ?_
  exact ⟨.ref f, _, I3, rfl, h s1.heap.objs.size f c' _ H1 nt rfl e1 t1 nf hco⟩
end
end LamV

namespace K
open PySem PySem.Spec PyProof.Rows L2 LamX SwD
abbrev sLetGo : Stmt := top 7
abbrev sLoseH : Stmt := top 48
abbrev sDropT : Stmt := top 16
abbrev sDropW : Stmt := top 17
abbrev sTryG : Stmt := top 42
abbrev sTryA : Stmt := top 44
abbrev sGoOn : Stmt := top 45
def spLetGo (c : WebC) : Sp := fun vs H Q _ => ∃ (v : V) (sl dsl td : Addr) (n age : Int) (wh out pa : V), vs = [v, .ref sl] ∧ H sl = some (.ins c.S dsl (slipF n wh out pa age "live" td)) ∧ Q .non H
def spLoseH (c : WebC) : Sp := fun vs H Q _ => ∃ (v h : V) (sl dsl td : Addr) (n age o : Int) (wh pa : V) (kvs : List (Key × V)), vs = [v, h, .ref sl, .int o] ∧ H sl = some (.ins c.S dsl (slipF n wh .non pa age "live" td)) ∧ H td = some (.dK kvs) ∧ Q .non H ∧ Q .non (upd H td (.dK (dropK kvs (.inl o))))
def spDropT (c : WebC) : Sp := fun vs H Q _ => ∃ (x dx hl b ml bo hx hdx nu sg wt st nw qu : Addr) (e nm : Int) (v : V), vs = [.ref x, .ref hx, v] ∧ H x = some (.ins c.W dx (webF hl b ml bo e)) ∧ H bo = some (.dK []) ∧ H hx = some (.ins c.H hdx (homeF nm nu sg wt st nw qu)) ∧ H qu = some (.lst []) ∧
  ∀ (H1 : Hp) (p : Addr), Same H H1 → H p = none → H1 p = some (.lst []) → Q .non (upd H1 hx (.ins c.H hdx (homeF nm nu sg wt st nw p)))
def spDropW (c : WebC) : Sp := fun vs H Q _ => ∃ (hx hdx nu sg wt st nw qu : Addr) (nm o : Int), vs = [.ref hx, .int o] ∧ H hx = some (.ins c.H hdx (homeF nm nu sg wt st nw qu)) ∧ H qu = some (.lst []) ∧
  ∀ (H1 : Hp) (p : Addr), Same H H1 → H p = none → H1 p = some (.lst []) → Q .non (upd H1 hx (.ins c.H hdx (homeF nm nu sg wt st nw p)))
def spTryG (c : WebC) : Sp := fun vs H Q _ => ∃ (v : V) (h : HomeA) (s : SlipA) (i n g : Nat) (lo hi : Int), vs = [v, .ref h.x, .int (g : Nat)] ∧ HomeT H c h s i lo hi n ∧ g < n ∧ ∀ H', Same H H' → Q .non H'
def spTryA (c : WebC) : Sp := fun vs H Q _ => ∃ (v : V) (h : HomeA) (s : SlipA) (i n : Nat) (lo hi : Int), vs = [v, .ref h.x] ∧ HomeT H c h s i lo hi n ∧ n ≤ 8 ∧ ∀ H', Same H H' → Q .non H'
def spGoOn (c : WebC) : Sp := fun vs H Q _ => ∃ (v : V) (hx hdx nu sg wt st nw qu : Addr) (nm : Int), vs = [v, .ref hx] ∧ H hx = some (.ins c.H hdx (homeF nm nu sg wt st nw qu)) ∧ Q .non H
section
variable {P : Program} {w : World} {K : PySem.W.Frag} {mg : Str → Option Value} {base : Heap}
theorem scLetGo : FnScope ["home", "slip"] ["home", "slip"] (defScope sLetGo) := ⟨rfl, rfl, rfl, by decide +kernel, rfl, by decide +kernel, by decide +kernel⟩
theorem ok_letGo {f fS : Addr} {c : WebC} {fd : FuncData} {k : Nat} (F : Fun K "let_go" "let_go" sLetGo f fd) (TS : ClsT K mg "Slip" c.S fS slipFs) : FnOk P w K mg base CX0 (k + 1) f fd ["home", "slip"] (spLetGo c) := by
  refine F.ok scLetGo (fun vs H Q E h => ?_) (fun cdv A outer s H vs Q E hr h => ?_)
  · obtain ⟨v, sl, dsl, td, n, age, wh, out, pa, rfl, _⟩ := h
    rfl
  · obtain ⟨v, sl, dsl, td, n, age, wh, out, pa, rfl, hs, kk⟩ := h
    refine ⟨_, pss_one (ps_if (PW.pt (pw_and (pt_cmpR op_ne (pe_fld (pv 1) rfl) pe_str (nomark _)) (pw_and1 pt_no))) pss_no pss_nil), ?_⟩
    exact ⟨_, rfl, sl, c.S, dsl, _, _, rfl, hs, TS.cl, TS.na _ (by decide), rfl, rfl, _, rfl, ifF0 (by decide) kk⟩
theorem scLoseH : FnScope ["web", "home", "slip", "other"] ["web", "home", "slip", "other"] (defScope sLoseH) := ⟨rfl, rfl, rfl, by decide +kernel, rfl, by decide +kernel, by decide +kernel⟩
theorem ok_loseH {f fS fG : Addr} {c : WebC} {fd fdG : FuncData} {k : Nat} (F : Fun K "lose_holder" "lose_holder" sLoseH f fd) (TS : ClsT K mg "Slip" c.S fS slipFs) (cG : Cal P w K mg base (k + 1) "let_go" fG fdG ["home", "slip"] (spLetGo c)) : FnOk P w K mg base CX0 (k + 2) f fd ["web", "home", "slip", "other"] (spLoseH c) := by
  refine F.ok scLoseH (fun vs H Q E h => ?_) (fun cdv A outer s H vs Q E hr h => ?_)
  · obtain ⟨v, h, sl, dsl, td, n, age, o, wh, pa, kvs, rfl, _⟩ := h
    rfl
  · obtain ⟨v, h, sl, dsl, td, n, age, o, wh, pa, kvs, rfl, hs, ht, k1, k2⟩ := h
    have hu := hu_of hr
    refine ⟨_, pss_cons (ps_if (pt_cmp (pc_din hu (pv 3) (pe_fld (pv 2) rfl))) (pss_one (ps_ddel (pe_fld (pv 2) rfl) (pv 3))) pss_nil)
      (pss_one (ps_if (PW.pt (pw_and (pt_cmpR op_ne (pe_fld (pv 2) rfl) pe_str (nomark _)) (pw_and (pt_cmpR op_notN (pe_fld (pv 2) rfl) pe_non (nomark _)) (pw_and1 pt_no)))) pss_no (pss_one (ps_expr (pe_call cG.ok hr (by rfl) cG.g cG.kp cG.b .nil pass0 (pa_cons (pv 1) (pa_cons (pv 2) pa_nil))))))), ?_⟩
    refine ⟨_, rfl, _, rfl, sl, c.S, dsl, _, .ref td, rfl, hs, TS.cl, TS.na _ (by decide), rfl, td, _, rfl, DGet.k (k := .inl o) ht, _, rfl, ?_⟩
    cases hv : valV kvs (.inl o) with
    | none =>
      refine iteF ?_
      exact ⟨_, rfl, sl, c.S, dsl, _, _, rfl, hs, TS.cl, TS.na _ (by decide), rfl, rfl, _, rfl, ifT0 (by decide) ⟨_, rfl, sl, c.S, dsl, _, _, rfl, hs, TS.cl, TS.na _ (by decide), rfl, rfl, _, rfl, ifF0 (by decide) ⟨_, rfl, _, rfl, h, sl, dsl, td, n, age, wh, .non, pa, rfl, hs, k1⟩⟩⟩
    | some b =>
      refine iteT ?_
      have hs' : upd H td (.dK (dropK kvs (.inl o))) sl = some (.ins c.S dsl (slipF n wh .non pa age "live" td)) := by rw [upd_ne (fun z => by rw [z, ht] at hs; cases hs)]; exact hs
      refine ⟨_, rfl, sl, c.S, dsl, _, .ref td, rfl, hs, TS.cl, TS.na _ (by decide), rfl, _, rfl, td, kvs, .inl o, rfl, ht, rfl, by rw [hv]; rfl, ?_⟩
      exact ⟨_, rfl, sl, c.S, dsl, _, _, rfl, hs', TS.cl, TS.na _ (by decide), rfl, rfl, _, rfl, ifT0 (by decide) ⟨_, rfl, sl, c.S, dsl, _, _, rfl, hs', TS.cl, TS.na _ (by decide), rfl, rfl, _, rfl, ifF0 (by decide) ⟨_, rfl, _, rfl, h, sl, dsl, td, n, age, wh, .non, pa, rfl, hs', k2⟩⟩⟩
theorem scDropT : FnScope ["web", "home", "is_gone", "number", "bore", "path", "out"] ["web", "home", "is_gone"] (defScope sDropT) := ⟨rfl, rfl, rfl, by decide +kernel, rfl, by decide +kernel, by decide +kernel⟩
theorem ok_dropT {f fW fH : Addr} {c : WebC} {fd : FuncData} {k : Nat} (F : Fun K "drop_tunnels" "drop_tunnels" sDropT f fd) (T : BT mg) (TC : ClsT K mg "Web" c.W fW webFs) (TH : ClsT K mg "House" c.H fH homeFs) : FnOk P w K mg base CX0 (k + 1) f fd ["web", "home", "is_gone"] (spDropT c) := by
  refine F.ok scDropT (fun vs H Q E h => ?_) (fun cdv A outer s H vs Q E hr h => ?_)
  · obtain ⟨x, dx, hl, b, ml, bo, hx, hdx, nu, sg, wt, st, nw, qu, e, nm, v, rfl, _⟩ := h
    rfl
  · obtain ⟨x, dx, hl, b, ml, bo, hx, hdx, nu, sg, wt, st, nw, qu, e, nm, v, rfl, h1, h2, h3, h4, kk⟩ := h
    refine ⟨_, pss_cons (ps_for PassesOwn.never rfl (pi_list (pe_callB (call_sortedDA rfl) (by rfl) T.sorted (by decide +kernel) (pa_cons (pe_fld (pv 0) rfl) pa_nil))) (pg_name (i := 3) scDropT.nd rfl (Or.inl rfl)) pss_no)
      (pss_one (ps_fld (pv 1) (pe_lc (own := [("number", 3), ("path", 5), ("out", 6)]) (g := gNo) (tt := tNoT) rfl scDropT.nd (by exact (pi_list (pe_fld (pv 1) rfl))) (blkOk_by (own := [("number", 3), ("path", 5), ("out", 6)]) (N := ["web", "home", "is_gone", "number", "bore", "path", "out"]) (sc := defScope sDropT) (by decide +kernel)) (fun _ _ _ _ _ => by exact pg_no) (fun _ _ _ _ _ => by exact pts_never) (fun _ _ _ _ _ => by exact pe_never)) rfl)), ?_⟩
    refine ⟨_, rfl, x, c.W, dx, _, _, rfl, h1, TC.cl, TC.na _ (by decide), rfl, bo, [], [], rfl, Rd.of h2, rfl, (by decide), fun ys l hp _ nl => ?_⟩
    have e0 : ys = [] := List.perm_nil.mp hp
    subst e0
    have s1 := same_upd (o := .lst []) nl
    refine ⟨l, rfl, ⟨_, SqL.of upd_same⟩, ?_⟩
    refine for_list (K := K) (a := l) (xs := []) (fun j σ H' => (∃ y3 y4 y5 y6, σ = [some (.ref x), some (.ref hx), some v, y3, y4, y5, y6]) ∧ H' = upd H l (.lst [])) ⟨⟨_, _, _, _, rfl⟩, rfl⟩ (fun j σ H' _ e => by rw [e.2]; exact SqL.of upd_same) (fun j y σ H' hy => by simp at hy) ?_
    rintro σ H' ⟨⟨y3, y4, y5, y6, rfl⟩, rfl⟩
    have h3' := s1 _ _ h3
    have h4' := s1 _ _ h4
    generalize upd H l (.lst []) = H1 at *
    refine ⟨_, rfl, hx, c.H, hdx, _, _, rfl, h3', TH.cl, TH.na _ (by decide), rfl, qu, rfl, ⟨_, SqL.of h4'⟩, fun D nD => ?_⟩
    have s2 := same_upd (o := .lst []) nD
    refine lc_nil (K := K) (SqL.of (s2 _ _ h4')) ?_
    refine ⟨_, rfl, hx, c.H, hdx, _, rfl, s2 _ _ h3', TH.cl, TH.na _ (by decide), ?_, kk _ D (s1.trans s2) (s1.free nD) upd_same⟩
    show 8 < 1000
    decide
theorem scDropW : FnScope ["home", "ahead", "number", "path", "out"] ["home", "ahead"] (defScope sDropW) := ⟨rfl, rfl, rfl, by decide +kernel, rfl, by decide +kernel, by decide +kernel⟩
theorem ok_dropW {f fH : Addr} {c : WebC} {fd : FuncData} {k : Nat} (F : Fun K "drop_towards" "drop_towards" sDropW f fd) (TH : ClsT K mg "House" c.H fH homeFs) : FnOk P w K mg base CX0 (k + 1) f fd ["home", "ahead"] (spDropW c) := by
  refine F.ok scDropW (fun vs H Q E h => ?_) (fun cdv A outer s H vs Q E hr h => ?_)
  · obtain ⟨hx, hdx, nu, sg, wt, st, nw, qu, nm, o, rfl, _⟩ := h
    rfl
  · obtain ⟨hx, hdx, nu, sg, wt, st, nw, qu, nm, o, rfl, h3, h4, kk⟩ := h
    refine ⟨_, pss_one (ps_fld (pv 0) (pe_lc (own := [("number", 2), ("path", 3), ("out", 4)]) (g := gNo) (tt := tNoT) rfl scDropW.nd (by exact (pi_list (pe_fld (pv 0) rfl))) (blkOk_by (own := [("number", 2), ("path", 3), ("out", 4)]) (N := ["home", "ahead", "number", "path", "out"]) (sc := defScope sDropW) (by decide +kernel)) (fun _ _ _ _ _ => by exact pg_no) (fun _ _ _ _ _ => by exact pts_never) (fun _ _ _ _ _ => by exact pe_never)) rfl), ?_⟩
    refine ⟨_, rfl, hx, c.H, hdx, _, _, rfl, h3, TH.cl, TH.na _ (by decide), rfl, qu, rfl, ⟨_, SqL.of h4⟩, fun D nD => ?_⟩
    have s2 := same_upd (o := .lst []) nD
    refine lc_nil (K := K) (SqL.of (s2 _ _ h4)) ?_
    exact ⟨_, rfl, hx, c.H, hdx, _, rfl, s2 _ _ h3, TH.cl, TH.na _ (by decide), (by show 8 < 1000; decide), kk _ D s2 nD upd_same⟩
theorem scTryG : FnScope ["web", "home", "goal", "elder", "lead"] ["web", "home", "goal"] (defScope sTryG) := ⟨rfl, rfl, rfl, by decide +kernel, rfl, by decide +kernel, by decide +kernel⟩
theorem ok_tryG {f fH fL : Addr} {c : WebC} {fd fdL : FuncData} {k : Nat} (F : Fun K "try_goal" "try_goal" sTryG f fd) (TH : ClsT K mg "House" c.H fH homeFs) (mL : Meth K c.H "live_slip" fL) (GL : FnOk P w K mg base CX0 (k + 1) fL fdL ["self", "what"] (spLiveT c)) (bL : Binds K fdL ["self", "what"] []) : FnOk P w K mg base CX0 (k + 2) f fd ["web", "home", "goal"] (spTryG c) := by
  refine F.ok scTryG (fun vs H Q E h => ?_) (fun cdv A outer s H vs Q E hr h => ?_)
  · obtain ⟨v, h, s, i, n, g, lo, hi, rfl, _⟩ := h
    rfl
  · obtain ⟨v, h, z, i, n, g, lo, hi, rfl, hh, gn, kk⟩ := h
    refine ⟨_, pss_cons (ps_if (pt_cmpR op_eq (pv 2) (pe_fld (pv 1) rfl) (nomark _)) (pss_one ps_retN) pss_nil)
      (pss_cons (ps_set (i := 3) scTryG.nd rfl (.inl rfl) (pe_meth (pv 1) TH.cl mL GL hr bL .nil pass0 (pa_cons (pe_tup (pa_cons pe_str (pa_cons (pv 2) pa_nil))) pa_nil)))
      (pss_cons (ps_if (pt_cmpR op_notN (pe_ix (r := rIxL K) ix_list (pe_fld (pv 1) rfl) (pv 2) (fun _ _ => rfl)) pe_non (nomark _)) pss_no pss_nil)
      (pss_one (ps_if (pt_cmpR op_notN (pv 3) pe_non (nomark _)) pss_no pss_nil)))), ?_⟩
    refine ⟨_, rfl, _, rfl, h.x, c.H, h.dx, _, .int (i : Nat), rfl, hh.me, TH.cl, TH.na _ (by decide), rfl, rfl, _, rfl, ?_⟩
    by_cases gi : g = i
    · exact ifT0 (decide_eq_true (by rw [gi])) (kk _ (fun _ _ e => e))
    refine ifF0 (decide_eq_false (fun z => gi (by injection z with z; exact Int.ofNat.inj z))) ?_
    refine ⟨_, rfl, h.x, h.dx, _, rfl, hh.me, rfl, _, rfl, (by show 2 ≤ sizeLine; decide), fun q nq => ?_⟩
    have s1 := same_upd (o := .tup [.str "goal", .int (g : Nat)]) nq
    have hq := upd_same (H := H) (a := q) (o := .tup [.str "goal", .int (g : Nat)])
    have hh1 := hh.same s1
    generalize upd H q (.tup [.str "goal", .int (g : Nat)]) = H1 at *
    refine ⟨h, z, i, n, lo, hi, (g : Nat), q, rfl, hh1, hq, fun e => absurd (Int.ofNat.inj e) gi, fun _ H2 s2 => ?_⟩
    have hh2 := hh1.same s2
    refine ⟨_, rfl, h.x, c.H, h.dx, _, _, rfl, hh2.me, TH.cl, TH.na _ (by decide), rfl, _, rfl, h.wt, _, (g : Nat), _, rfl, rfl, SqL.of hh2.wt, atI_nat (by rw [List.getElem?_replicate, if_pos gn]), rfl, _, rfl, ifF0 (by decide) ?_⟩
    exact ⟨_, rfl, rfl, _, rfl, ifF0 (by decide) (kk _ (s1.trans s2))⟩
theorem scTryA : FnScope ["web", "home", "goal"] ["web", "home"] (defScope sTryA) := ⟨rfl, rfl, rfl, by decide +kernel, rfl, by decide +kernel, by decide +kernel⟩
theorem ok_tryA {f fH fG : Addr} {c : WebC} {fd fdG : FuncData} {k : Nat} (F : Fun K "try_all" "try_all" sTryA f fd) (T : BT mg) (TH : ClsT K mg "House" c.H fH homeFs) (cG : Cal P w K mg base (k + 2) "try_goal" fG fdG ["web", "home", "goal"] (spTryG c)) : FnOk P w K mg base CX0 (k + 3) f fd ["web", "home"] (spTryA c) := by
  refine F.ok scTryA (fun vs H Q E h => ?_) (fun cdv A outer s H vs Q E hr h => ?_)
  · obtain ⟨v, h, s, i, n, lo, hi, rfl, _⟩ := h
    rfl
  · obtain ⟨v, h, z, i, n, lo, hi, rfl, hh, n8, kk⟩ := h
    refine ⟨_, pss_one (ps_for PassesOwn.never rfl (pi_range1 (by rfl) T.range (pa_cons (pe_callB call_len_seq (by rfl) T.len PySem.boot_len (pa_cons (pe_fld (pv 1) rfl) pa_nil)) pa_nil)) (pg_name (i := 2) scTryA.nd rfl (Or.inl rfl))
      (pss_one (ps_expr (pe_call cG.ok hr (by rfl) cG.g cG.kp cG.b .nil pass0 (pa_cons (pv 0) (pa_cons (pv 1) (pa_cons (pv 2) pa_nil))))))), ?_⟩
    refine ⟨_, rfl, h.x, c.H, h.dx, _, .ref h.wt, rfl, hh.me, TH.cl, TH.na _ (by decide), rfl, h.wt, _, rfl, .inl (SqL.of hh.wt), n, (by rw [List.length_replicate]), by omega, by omega, ?_⟩
    refine for_range (lo := 0) (n := n) (fun g σ H' => (∃ y, σ = [some v, some (.ref h.x), y]) ∧ Same H H') ⟨⟨_, rfl⟩, fun _ _ e => e⟩ ?_ ?_
    · rintro g σ H1 hg ⟨⟨y, rfl⟩, s1⟩
      refine ⟨_, rfl, _, rfl, _, rfl, v, h, z, i, n, g, lo, hi, (by rw [Int.zero_add]; rfl), hh.same s1, hg, fun H2 s2 => ⟨⟨_, rfl⟩, s1.trans s2⟩⟩
    · rintro σ H1 ⟨⟨y, rfl⟩, s1⟩
      exact kk _ s1
theorem scGoOn : FnScope ["web", "home"] ["web", "home"] (defScope sGoOn) := ⟨rfl, rfl, rfl, by decide +kernel, rfl, by decide +kernel, by decide +kernel⟩
theorem ok_goOn {f fH : Addr} {c : WebC} {fd : FuncData} {k : Nat} (F : Fun K "go_on" "go_on" sGoOn f fd) (TH : ClsT K mg "House" c.H fH homeFs) : FnOk P w K mg base CX0 (k + 1) f fd ["web", "home"] (spGoOn c) := by
  refine F.ok scGoOn (fun vs H Q E h => ?_) (fun cdv A outer s H vs Q E hr h => ?_)
  · obtain ⟨v, hx, hdx, nu, sg, wt, st, nw, qu, nm, rfl, _⟩ := h
    rfl
  · obtain ⟨v, hx, hdx, nu, sg, wt, st, nw, qu, nm, rfl, h1, kk⟩ := h
    refine ⟨_, pss_one (ps_while PassesOwn.never (pt_val (pe_fld (pv 1) rfl)) pss_no), ?_⟩
    refine ⟨fun m σ H' => m = 0 ∧ σ = [some v, some (.ref hx)] ∧ H' = H, ⟨0, rfl, rfl, rfl⟩, ?_⟩
    rintro m σ H' ⟨rfl, rfl, rfl⟩
    exact ⟨_, rfl, hx, c.H, hdx, _, _, rfl, h1, TH.cl, TH.na _ (by decide), rfl, _, rfl, iteF kk⟩
end
end K


/-! the law's own keeping of a web, as it begins -/
namespace K
open PySem PySem.Spec PyProof.Rows L2
structure EntA where
  e : Addr
  wh : Addr
  pa : Addr
  hl : Addr
structure MirA where
  m : Addr
  rl : Addr
  ti : Addr
  br : Addr
  ro : Addr
  wa : Addr
  wt : Addr
  vw : Addr
  sk : Addr
  tb : Addr
  hd : Addr
  rd : Addr
  vs : List Addr
  td : List Addr
  hs : List Addr
  es : List EntA
/-- all its lists -/
def MirA.lists (a : MirA) : List Addr := ([a.rl, a.vw, a.tb, a.hd] ++ a.vs) ++ (a.es.map (·.e) ++ a.es.map (·.hl))
def mK (a : MirA) (made : Int) : List (Key × V) := [(.inr "ranges", .ref a.rl), (.inr "ties", .ref a.ti), (.inr "broken", .ref a.br), (.inr "rows", .ref a.ro), (.inr "ways", .ref a.wa), (.inr "given", .int 0), (.inr "made", .int made), (.inr "loose", .bl false), (.inr "want", .ref a.wt),
  (.inr "view", .ref a.vw), (.inr "stuck", .ref a.sk), (.inr "tables", .ref a.tb), (.inr "heard", .ref a.hd), (.inr "ready", .ref a.rd)]
def entL (lo age : Int) (x : EntA) : List V := [.int lo, .ref x.wh, .non, .ref x.pa, .int age, .str "live", .ref x.hl]
structure EntAt (H : Hp) (x : EntA) (i lo age : Int) : Prop where
  e : H x.e = some (.lst (entL lo age x))
  wh : H x.wh = some (.tup [.str "goal", .int i])
  pa : H x.pa = some (.tup [.int i])
  hl : H x.hl = some (.lst [])
theorem EntAt.same {H H' : Hp} {x : EntA} {i lo age : Int} (h : EntAt H x i lo age) (s : Same H H') : EntAt H' x i lo age := ⟨s _ _ h.e, s _ _ h.wh, s _ _ h.pa, s _ _ h.hl⟩
structure Mir (H : Hp) (a : MirA) (rs : List (Int × Int)) : Prop where
  me : H a.m = some (.dK (mK a (rs.length : Nat)))
  rl : RangesAt H a.rl rs
  ti : H a.ti = some (.dK [])
  ro : H a.ro = some (.dK [])
  wa : H a.wa = some (.dK [])
  vw : H a.vw = some (.lst (a.vs.map V.ref))
  vs : ∀ v ∈ a.vs, H v = some (.lst [])
  lv : a.vs.length = rs.length
  tb : H a.tb = some (.lst (a.td.map V.ref))
  lt : a.td.length = rs.length
  hd : H a.hd = some (.lst (a.hs.map V.ref))
  hs : ∀ d ∈ a.hs, H d = some (.dK [])
  lh : a.hs.length = rs.length
  le : a.es.length = rs.length
  ent : ∀ (i : Nat) t r x, a.td[i]? = some t → rs[i]? = some r → a.es[i]? = some x → H t = some (.dK [(Sum.inl r.1, V.ref x.e)]) ∧ EntAt H x (i : Nat) r.1 ((i : Nat) + 1)
theorem rangesSame {H H' : Hp} {l : Addr} {rs : List (Int × Int)} (h : RangesAt H l rs) (s : Same H H') : RangesAt H' l rs := by
  obtain ⟨ts, h1, h2⟩ := h
  exact ⟨ts, s _ _ h1, paired_mono (fun t r q => s _ _ q) h2⟩
theorem Mir.same {H H' : Hp} {a : MirA} {rs : List (Int × Int)} (h : Mir H a rs) (s : Same H H') : Mir H' a rs :=
  ⟨s _ _ h.me, rangesSame h.rl s, s _ _ h.ti, s _ _ h.ro, s _ _ h.wa, s _ _ h.vw, fun v m => s _ _ (h.vs v m), h.lv, s _ _ h.tb, h.lt, s _ _ h.hd, fun d m => s _ _ (h.hs d m), h.lh, h.le, fun i t r x h1 h2 h3 => let ⟨q1, q2⟩ := h.ent i t r x h1 h2 h3; ⟨s _ _ q1, q2.same s⟩⟩
theorem dgetS {H : Hp} {a : Addr} {kvs : List (Key × V)} {key : Str} {v : V} (h : H a = some (.dK kvs)) (e : valV kvs (.inr key) = some v) : DGet H a (.str key) (some v) := by
  have := DGet.k (k := Sum.inr key) h
  rw [e] at this
  exact this
theorem mk_ranges (a : MirA) (n : Int) : valV (mK a n) (.inr "ranges") = some (.ref a.rl) := rfl
theorem mk_ties (a : MirA) (n : Int) : valV (mK a n) (.inr "ties") = some (.ref a.ti) := rfl
theorem mk_rows (a : MirA) (n : Int) : valV (mK a n) (.inr "rows") = some (.ref a.ro) := rfl
theorem mk_ways (a : MirA) (n : Int) : valV (mK a n) (.inr "ways") = some (.ref a.wa) := rfl
theorem mk_made (a : MirA) (n : Int) : valV (mK a n) (.inr "made") = some (.int n) := rfl
theorem mk_view (a : MirA) (n : Int) : valV (mK a n) (.inr "view") = some (.ref a.vw) := rfl
theorem mk_tables (a : MirA) (n : Int) : valV (mK a n) (.inr "tables") = some (.ref a.tb) := rfl
theorem mk_heard (a : MirA) (n : Int) : valV (mK a n) (.inr "heard") = some (.ref a.hd) := rfl
theorem mk_put (a : MirA) (n m : Int) : putK (mK a n) (.inr "made") (.int m) = mK a m := rfl
theorem Mir.putL {H : Hp} {a : MirA} {rs : List (Int × Int)} {y : Addr} {xs ys : List V} (M : Mir H a rs) (hy : H y = some (.lst xs)) (n : y ∉ a.lists) : Mir (upd H y (.lst ys)) a rs := by
  have k : ∀ {z o}, H z = some o → o ≠ .lst xs → upd H y (.lst ys) z = some o := fun e ne => by rw [upd_ne (fun q => ne (by rw [q, hy] at e; exact (Option.some.inj e).symm))]; exact e
  have l : ∀ {z o}, H z = some o → z ∈ a.lists → upd H y (.lst ys) z = some o := fun e m => by rw [upd_ne (fun q => n (by rw [← q]; exact m))]; exact e
  obtain ⟨ts, h1, h2⟩ := M.rl
  refine ⟨k M.me (fun z => by cases z), ⟨ts, l h1 (by simp [MirA.lists]), paired_mono (fun t r q => k q (fun z => by cases z)) h2⟩, k M.ti (fun z => by cases z), k M.ro (fun z => by cases z), k M.wa (fun z => by cases z), l M.vw (by simp [MirA.lists]), fun v m => l (M.vs v m) (by simp [MirA.lists, m]), M.lv, l M.tb (by simp [MirA.lists]), M.lt, l M.hd (by simp [MirA.lists]), fun d m => k (M.hs d m) (fun z => by cases z), M.lh, M.le, fun i t r x e1 e2 e3 => ?_⟩
  obtain ⟨q1, q2⟩ := M.ent i t r x e1 e2 e3
  have mx := List.mem_of_getElem? e3
  have m1 : x.e ∈ a.lists := by
    simp only [MirA.lists, List.mem_append, List.mem_map]
    exact .inr (.inl ⟨x, mx, rfl⟩)
  have m2 : x.hl ∈ a.lists := by
    simp only [MirA.lists, List.mem_append, List.mem_map]
    exact .inr (.inr ⟨x, mx, rfl⟩)
  exact ⟨k q1 (fun z => by cases z), l q2.e m1, k q2.wh (fun z => by cases z), k q2.pa (fun z => by cases z), l q2.hl m2⟩
end K

/-! all ways without a house twice -/
namespace K
open Sw (T3 Dist at? Way IsFar IsNext Cand WayTo Le)
/-- a way that is under way: the houses ahead, the last one, the cost -/
abbrev Ent := List Nat × Nat × Nat
def joinE (g : Nat) (w : Ent) (a b m : Nat) : List Ent := if a = w.2.1 ∧ b ∉ w.1 ++ [w.2.1] ∧ w.2.1 ≠ g then [(w.1 ++ [w.2.1], b, w.2.2 + m)] else []
def ext1 (g : Nat) (w : Ent) (e : T3) : List Ent := joinE g w e.1 e.2.1 e.2.2 ++ joinE g w e.2.1 e.1 e.2.2
def extL (ts : List T3) (g : Nat) (w : Ent) : List Ent := ts.flatMap (ext1 g w)
def stepF (ts : List T3) (g : Nat) (fs : List Ent) : List Ent := fs.flatMap (extL ts g)
def foundK (ts : List T3) (s g : Nat) : Nat → List Ent
  | 0 => [([], s, 0)]
  | k + 1 => stepF ts g (foundK ts s g k)
def endE (g : Nat) (w : Ent) : List (Nat × List Nat) := if w.2.1 = g then [(w.2.2, w.1 ++ [w.2.1])] else []
def endsF (g : Nat) (fs : List Ent) : List (Nat × List Nat) := fs.flatMap (endE g)
def endsK (ts : List T3) (s g : Nat) : Nat → List (Nat × List Nat)
  | 0 => []
  | k + 1 => endsK ts s g k ++ endsF g (foundK ts s g k)
theorem joinE_len (g : Nat) (w : Ent) (a b m : Nat) : (joinE g w a b m).length ≤ 1 := by
  unfold joinE
  split <;> simp
theorem ext1_len {g : Nat} {w : Ent} {e : T3} (h : e.1 ≠ e.2.1) : (ext1 g w e).length ≤ 1 := by
  unfold ext1 joinE
  rw [List.length_append]
  by_cases h1 : (e.1 = w.2.1 ∧ e.2.1 ∉ w.1 ++ [w.2.1] ∧ w.2.1 ≠ g)
  · rw [if_pos h1, if_neg (fun h2 => h (h1.1.trans h2.1.symm))]
    simp
  · rw [if_neg h1]
    split <;> simp
theorem flatMap_len {α β : Type} {f : α → List β} {m : Nat} : ∀ {l : List α}, (∀ x ∈ l, (f x).length ≤ m) → (l.flatMap f).length ≤ l.length * m
  | [], _ => by simp
  | x :: l, h => by
    have h1 := h x List.mem_cons_self
    have h2 := flatMap_len (f := f) (l := l) fun y hy => h y (List.mem_cons_of_mem _ hy)
    rw [List.flatMap_cons, List.length_append, List.length_cons, Nat.succ_mul]
    omega
theorem extL_len {ts : List T3} {g : Nat} {w : Ent} (h : ∀ e ∈ ts, e.1 ≠ e.2.1) : (extL ts g w).length ≤ ts.length := by
  have := flatMap_len (f := ext1 g w) (m := 1) (l := ts) fun e m => ext1_len (h e m)
  unfold extL
  omega
theorem stepF_len {ts : List T3} {g : Nat} {fs : List Ent} (h : ∀ e ∈ ts, e.1 ≠ e.2.1) (hl : ts.length ≤ 14) : (stepF ts g fs).length ≤ fs.length * 14 :=
  flatMap_len fun w _ => Nat.le_trans (extL_len h) hl
theorem foundK_len {ts : List T3} {s g : Nat} (h : ∀ e ∈ ts, e.1 ≠ e.2.1) (hl : ts.length ≤ 14) : ∀ k, (foundK ts s g k).length ≤ 14 ^ k
  | 0 => by simp [foundK]
  | k + 1 => by
    have h1 := foundK_len (s := s) (g := g) h hl k
    have h2 := stepF_len (g := g) (fs := foundK ts s g k) h hl
    rw [Nat.pow_succ]
    show (stepF ts g (foundK ts s g k)).length ≤ _
    exact Nat.le_trans h2 (Nat.mul_le_mul_right _ h1)
theorem endsF_len (g : Nat) (fs : List Ent) : (endsF g fs).length ≤ fs.length := by
  have := flatMap_len (f := endE g) (m := 1) (l := fs) fun w _ => by unfold endE; split <;> simp
  unfold endsF
  omega
theorem joinE_mem {g : Nat} {w w' : Ent} {a b m : Nat} (h : w' ∈ joinE g w a b m) : a = w.2.1 ∧ w' = (w.1 ++ [w.2.1], b, w.2.2 + m) := by
  unfold joinE at h
  split at h
  · next c => exact ⟨c.1, by simpa using h⟩
  · cases h
/-- what is found leads there -/
theorem found_sound {ts : List T3} {s g : Nat} : ∀ (k : Nat) (w : Ent), w ∈ foundK ts s g k → ∀ j c, Way (both ts) g w.2.1 j c → ∃ j', Way (both ts) g s j' (w.2.2 + c)
  | 0, w, h, j, c, q => by
    have : w = ([], s, 0) := by simpa [foundK] using h
    subst this
    exact ⟨j, by rw [Nat.zero_add]; exact q⟩
  | k + 1, w', h, j, c, q => by
    obtain ⟨w, hw, hx⟩ := List.mem_flatMap.mp (show w' ∈ (foundK ts s g k).flatMap (extL ts g) from h)
    obtain ⟨e, he, hy⟩ := List.mem_flatMap.mp (show w' ∈ ts.flatMap (ext1 g w) from hx)
    have go : ∀ {a b m : Nat}, (a, b, m) ∈ both ts → w' ∈ joinE g w a b m → ∃ j', Way (both ts) g s j' (w'.2.2 + c) := fun {a b m} hm hj => by
      obtain ⟨e1, e2⟩ := joinE_mem hj
      subst e2
      have q2 : Way (both ts) g w.2.1 (j + 1) (m + c) := by
        rw [← e1]
        exact .cons hm q
      obtain ⟨j', q3⟩ := found_sound k w hw _ _ q2
      exact ⟨j', by show Way _ _ _ _ (w.2.2 + m + c); rw [Nat.add_assoc]; exact q3⟩
    rcases List.mem_append.mp hy with z | z
    · exact go ((both_mem ts _).mpr (.inl he)) z
    · exact go ((both_mem ts _).mpr (.inr he)) z
theorem endsK_mem {ts : List T3} {s g : Nat} {x : Nat × List Nat} : ∀ {n : Nat}, x ∈ endsK ts s g n ↔ ∃ k, k < n ∧ x ∈ endsF g (foundK ts s g k)
  | 0 => by simp [endsK]
  | n + 1 => by
    show x ∈ endsK ts s g n ++ endsF g (foundK ts s g n) ↔ _
    rw [List.mem_append, endsK_mem (n := n)]
    constructor
    · rintro (⟨k, hk, h⟩ | h)
      · exact ⟨k, by omega, h⟩
      · exact ⟨n, by omega, h⟩
    · rintro ⟨k, hk, h⟩
      by_cases e : k = n
      · subst e; exact .inr h
      · exact .inl ⟨k, by omega, h⟩
theorem ends_sound {ts : List T3} {s g n c : Nat} {w : List Nat} (h : (c, w) ∈ endsK ts s g n) : ∃ j, Way (both ts) g s j c := by
  obtain ⟨k, _, h⟩ := endsK_mem.mp h
  obtain ⟨x, hx, hy⟩ := List.mem_flatMap.mp (show (c, w) ∈ (foundK ts s g k).flatMap (endE g) from h)
  unfold endE at hy
  split at hy
  · next e =>
    have hy : (c, w) = (x.2.2, x.1 ++ [x.2.1]) := by simpa using hy
    have q := found_sound k x hx 0 0 (by rw [e]; exact .nil)
    obtain ⟨j, q⟩ := q
    have e2 : c = x.2.2 := congrArg Prod.fst hy
    exact ⟨j, by rw [e2]; exact q⟩
  · cases hy
/-- the told way is found -/
theorem way_found {ts : List T3} {s g n : Nat} {d : Dist} (f : IsFar (both ts) n g d) (hP : ∀ a b c, (a, b, c) ∈ both ts → 1 ≤ c) : ∀ {x : Nat} {l : List Nat}, WayTo (both ts) d g x l → ∀ (k : Nat) (pre : List Nat) (c dx : Nat), (pre, x, c) ∈ foundK ts s g k → at? d x = some dx → (∀ y ∈ pre, ∃ m, at? d y = some m ∧ dx < m) → (c + dx, pre ++ l) ∈ endsF g (foundK ts s g (k + (l.length - 1))) := by
  intro x l hw
  induction hw with
  | here =>
    intro k pre c dx hm hx _
    rw [Sw.far_goal f] at hx
    cases hx
    refine List.mem_flatMap.mpr ⟨_, hm, ?_⟩
    unfold endE
    rw [if_pos rfl]
    simp
  | @step h u l hn hl ih =>
    intro k pre c dx hm hx hpre
    obtain ⟨p, y, he, hy, hz⟩ := hn.2.2.1
    rw [hx] at hz
    cases hz
    have hp := hP _ _ _ he
    have hlen : 1 ≤ l.length := by cases hl <;> simp
    have hnot : u ∉ pre ++ [h] := fun z => by
      rcases List.mem_append.mp z with z | z
      · obtain ⟨m, e1, e2⟩ := hpre u z
        rw [hy] at e1
        cases e1
        omega
      · have : u = h := by simpa using z
        subst this
        rw [hx] at hy
        injection hy with hy
        omega
    have hin : (pre ++ [h], u, c + p) ∈ foundK ts s g (k + 1) := by
      refine List.mem_flatMap.mpr ⟨_, hm, List.mem_flatMap.mpr ?_⟩
      rcases (both_mem ts _).mp he with z | z
      · refine ⟨_, z, List.mem_append_left _ ?_⟩
        unfold joinE
        rw [if_pos ⟨rfl, hnot, hn.1⟩]
        exact List.mem_singleton.mpr rfl
      · refine ⟨_, z, List.mem_append_right _ ?_⟩
        unfold joinE
        rw [if_pos ⟨rfl, hnot, hn.1⟩]
        exact List.mem_singleton.mpr rfl
    have := ih (k + 1) (pre ++ [h]) (c + p) y hin hy (fun z hz => by
      rcases List.mem_append.mp hz with q | q
      · obtain ⟨m, e1, e2⟩ := hpre z q
        exact ⟨m, e1, by omega⟩
      · have : z = h := by simpa using q
        subst this
        exact ⟨y + p, hx, by omega⟩)
    rw [List.append_assoc] at this
    have e1 : c + p + y = c + (y + p) := by omega
    have e2 : k + 1 + (l.length - 1) = k + ((h :: l).length - 1) := by rw [List.length_cons]; omega
    rw [e1, e2] at this
    exact this
theorem wayto_simple {E : List T3} {n g : Nat} {d : Dist} (f : IsFar E n g d) (hP : ∀ a b c, (a, b, c) ∈ E → 1 ≤ c) : ∀ {x : Nat} {l : List Nat}, WayTo E d g x l → ∀ dx, at? d x = some dx → l.Nodup ∧ ∀ y ∈ l, ∃ m, at? d y = some m ∧ m ≤ dx := by
  intro x l hw
  induction hw with
  | here =>
    intro dx hx
    refine ⟨by simp, fun y hy => ?_⟩
    have : y = g := by simpa using hy
    subst this
    exact ⟨dx, hx, Nat.le_refl _⟩
  | @step h u l hn hl ih =>
    intro dx hx
    obtain ⟨p, y, he, hy, hz⟩ := hn.2.2.1
    rw [hx] at hz
    cases hz
    have hp := hP _ _ _ he
    obtain ⟨i1, i2⟩ := ih y hy
    refine ⟨List.nodup_cons.mpr ⟨fun z => ?_, i1⟩, fun z hz => ?_⟩
    · obtain ⟨m, e1, e2⟩ := i2 h z
      rw [hx] at e1
      cases e1
      omega
    · rcases List.mem_cons.mp hz with q | q
      · subst q; exact ⟨_, hx, Nat.le_refl _⟩
      · obtain ⟨m, e1, e2⟩ := i2 z q
        exact ⟨m, e1, by omega⟩
theorem at_lt {d : Dist} {v c : Nat} (h : at? d v = some c) : v < d.length := by
  unfold at? at h
  by_cases q : v < d.length
  · exact q
  · rw [List.getElem?_eq_none (by omega)] at h
    cases h
theorem least_ex {p : Nat → Prop} : ∀ u, p u → ∃ v, p v ∧ ∀ x, p x → v ≤ x := by
  intro u
  induction u using Nat.strongRecOn with
  | ind u ih =>
    intro hu
    by_cases h : ∃ x, p x ∧ x < u
    · obtain ⟨x, hx, hl⟩ := h
      exact ih x hl hx
    · exact ⟨u, hu, fun x hx => by
        by_cases q : u ≤ x
        · exact q
        · exact absurd ⟨x, hx, by omega⟩ h⟩
theorem wayto_ex {E : List T3} {n g : Nat} {d : Dist} (f : IsFar E n g d) (hP : ∀ a b c, (a, b, c) ∈ E → 1 ≤ c) : ∀ (c h : Nat), at? d h = some c → ∃ l, WayTo E d g h l := by
  intro c
  induction c using Nat.strongRecOn with
  | ind c ih =>
    intro h hc
    by_cases hg : h = g
    · subst hg; exact ⟨_, .here⟩
    · obtain ⟨u0, hu0⟩ := Sw.cand_ex f hg hc
      obtain ⟨u, hu, hmin⟩ := least_ex (p := Cand E d h) u0 hu0
      obtain ⟨p, y, he, hy, hz⟩ := id hu
      rw [hc] at hz
      cases hz
      have hp := hP _ _ _ he
      obtain ⟨l, hl⟩ := ih y (by omega) u hy
      exact ⟨_, .step ⟨hg, by rw [hc]; simp, hu, hmin⟩ hl⟩
/-- what all ways tell -/
theorem ends_some {ts : List T3} {s g n c : Nat} {d : Dist} (f : IsFar (both ts) n g d) (hP : ∀ a b c, (a, b, c) ∈ both ts → 1 ≤ c) (hc : at? d s = some c) : (∀ l, WayTo (both ts) d g s l → (c, l) ∈ endsK ts s g n) ∧ (∃ l, WayTo (both ts) d g s l) ∧ ∀ x ∈ endsK ts s g n, c ≤ x.1 := by
  refine ⟨fun l hl => ?_, wayto_ex f hP c s hc, fun x hx => ?_⟩
  · have h1 := way_found (s := s) f hP hl 0 [] 0 c (by simp [foundK]) hc (fun y hy => by cases hy)
    obtain ⟨nd, hlt⟩ := wayto_simple f hP hl c hc
    have hle := Sw.nodup_le n l nd fun y hy => by
      obtain ⟨m, e, _⟩ := hlt y hy
      have := at_lt e
      rw [f.len] at this
      exact this
    have h1l : 1 ≤ l.length := by cases hl <;> simp
    refine endsK_mem.mpr ⟨l.length - 1, by omega, ?_⟩
    simpa using h1
  · obtain ⟨c', w⟩ := x
    obtain ⟨j, q⟩ := ends_sound hx
    obtain ⟨z, ez, lz⟩ := f.least _ _ _ q _ rfl
    rw [hc] at ez
    cases ez
    exact lz
theorem ends_none {ts : List T3} {s g n : Nat} {d : Dist} (f : IsFar (both ts) n g d) (hc : at? d s = none) : endsK ts s g n = [] := by
  cases e : endsK ts s g n with
  | nil => rfl
  | cons x r =>
    obtain ⟨c, w⟩ := x
    obtain ⟨j, q⟩ := ends_sound (ts := ts) (s := s) (g := g) (n := n) (c := c) (w := w) (by rw [e]; exact List.mem_cons_self)
    obtain ⟨z, ez, lz⟩ := f.least _ _ _ q _ rfl
    rw [hc] at ez
    cases ez
/-! houses named anew -/
def ren (nm : Nat → Nat) (e : T3) : T3 := (nm e.1, nm e.2.1, e.2.2)
theorem both_ren {nm : Nat → Nat} {ts : List T3} {e : T3} : e ∈ both (ts.map (ren nm)) ↔ ∃ x ∈ both ts, e = ren nm x := by
  rw [both_mem]
  constructor
  · rintro (h | h)
    · obtain ⟨x, hx, q⟩ := List.mem_map.mp h
      exact ⟨x, (both_mem ts _).mpr (.inl hx), q.symm⟩
    · obtain ⟨x, hx, q⟩ := List.mem_map.mp h
      refine ⟨(x.2.1, x.1, x.2.2), (both_mem ts _).mpr (.inr hx), ?_⟩
      obtain ⟨a, b, c⟩ := e
      unfold ren at q ⊢
      simp only [Prod.mk.injEq] at q ⊢
      exact ⟨q.2.1.symm, q.1.symm, q.2.2.symm⟩
  · rintro ⟨x, hx, rfl⟩
    rcases (both_mem ts _).mp hx with z | z
    · exact .inl (List.mem_map.mpr ⟨x, z, rfl⟩)
    · exact .inr (List.mem_map.mpr ⟨_, z, rfl⟩)
theorem far_ren {nm : Nat → Nat} {ts : List T3} {n g s : Nat} {d d' : Dist} (hinj : ∀ a b, a < n → b < n → nm a = nm b → a = b) (hF : Fits n ts) (hg : g < n) (hs : s < n) (f : IsFar (both ts) n g d) (f' : IsFar (both (ts.map (ren nm))) n (nm g) d') : at? d' (nm s) = at? d s := by
  have fw : ∀ {v k c}, Way (both ts) g v k c → Way (both (ts.map (ren nm))) (nm g) (nm v) k c := fun {v k c} w => by
    induction w with
    | nil => exact .nil
    | cons he _ ih => exact .cons (both_ren.mpr ⟨_, he, rfl⟩) ih
  have bw : ∀ {v' k c}, Way (both (ts.map (ren nm))) (nm g) v' k c → ∀ v, v < n → v' = nm v → Way (both ts) g v k c := fun {v' k c} w => by
    induction w with
    | nil =>
      intro v hv e
      have := hinj _ _ hg hv e
      subst this
      exact .nil
    | @cons a b p k c he _ ih =>
      intro v hv e
      obtain ⟨x, hx, q⟩ := both_ren.mp he
      obtain ⟨x1, x2, x3⟩ := x
      have hb := both_lt hF _ hx
      unfold ren at q
      simp only [Prod.mk.injEq] at q
      have e1 : x1 = v := hinj _ _ hb.1 hv (q.1.symm.trans e)
      subst e1
      have w2 := ih x2 hb.2 q.2.1
      rw [q.2.2]
      exact .cons hx w2
  cases h1 : at? d s with
  | some c =>
    obtain ⟨k, w⟩ := f.way s c h1
    obtain ⟨c', e', l'⟩ := f'.least _ _ _ (fw w) _ rfl
    obtain ⟨k2, w2⟩ := f'.way _ _ e'
    obtain ⟨c2, e2, l2⟩ := f.least _ _ _ (bw w2 s hs rfl) _ rfl
    rw [h1] at e2
    cases e2
    rw [e']
    congr 1
    omega
  | none =>
    cases h2 : at? d' (nm s) with
    | none => rfl
    | some c =>
      obtain ⟨k2, w2⟩ := f'.way _ _ h2
      obtain ⟨c2, e2, l2⟩ := f.least _ _ _ (bw w2 s hs rfl) _ rfl
      rw [h1] at e2
      cases e2
end K

/-! list(range(n)) -/
namespace L2
open PySem PySem.Spec PyProof.Rows
theorem vals_by : ∀ {xs : List V} {us : List Value}, xs.length = us.length → (∀ (j : Nat) (x : V) (u : Value), xs[j]? = some x → us[j]? = some u → RelV x u) → Vals xs us
  | [], [], _, _ => .nil
  | [], _ :: _, h, _ => by simp at h
  | _ :: _, [], h, _ => by simp at h
  | x :: xs, u :: us, h, f => .cons (f 0 x u rfl rfl) (vals_by (by simpa using h) fun j y w h1 h2 => f (j + 1) y w (by simpa using h1) (by simpa using h2))
section
variable {X : Cx}
theorem cr_range1 : CallR X (.type "range") (fun vs H Q => ∃ j, vs = [V.int j] ∧ ∀ p, H p = none → Q (.ref p) (upd H p (.rng 0 j))) := by
  intro pins s σ H vs us Q I r h
  obtain ⟨j, rfl, q⟩ := h
  obtain ⟨u1, rfl, rj⟩ := vals1 r
  obtain ⟨u, rfl⟩ := rj
  refine call_range_1 ⟨.ref s.heap.objs.size, upd H s.heap.objs.size (.rng 0 j), I.laid (t' := s.toks + 1 + 1) (fun b o e => Heap.get?_push_of_some _ e) (Nat.le_refl _) ?_, rfl, q _ (I.hok.fresh (Nat.le_refl _))⟩
  exact ⟨s.toks, u, s.toks + 1, Heap.get?_push_size _ rfl⟩
theorem call_list_rng (hc : X.calm = true) : CallR X (.type "list") (fun xs H Q => ∃ (p : Addr) (n : Nat), xs = [.ref p] ∧ H p = some (.rng 0 (n : Nat)) ∧ n ≤ 1000 ∧ ∀ l, H l = none → Q (.ref l) (upd H l (.lst ((List.range n).map fun i => V.int (i : Nat))))) := by
  intro pins s σ H xs us Q I r h
  obtain ⟨p, n, rfl, hp, hn, q⟩ := h
  obtain ⟨u, rfl, rx⟩ := vals1 r
  obtain rfl : u = Value.ref p := rx
  obtain ⟨t1, t2, t3, ho⟩ := I.hok p _ hp
  refine call_list_range (n := n) (I.ok.hd hc) ho (small_one (by omega) (by omega) (by omega) (by omega)) (by rw [rangeSize_one]; split <;> omega) (by omega) fun h' tk acc' c' hk hS hacc => ?_
  refine ⟨.ref s.heap.objs.size, upd H s.heap.objs.size (.lst ((List.range n).map fun i => V.int (i : Nat))), I.laid hk (Nat.le_refl _) (show ObjOk X.prog X.w _ _ _ (.lst _) from ⟨?_, acc'.toList, c', ?_, ?_⟩), rfl, q _ (I.hok.fresh (Nat.le_refl _))⟩
  · rw [List.length_map, List.length_range, sizeLine_eq]; omega
  · have el : acc'.toList.length = acc'.size := by simp
    refine vals_by (by rw [List.length_map, List.length_range, el]; exact hacc.1.symm) fun j x w h1 h2 => ?_
    obtain ⟨t, hi⟩ := hacc.2 j w (by rw [← Array.getElem?_toList]; exact h2)
    have hj : j < n := by
      have := (List.getElem?_eq_some_iff.mp h1).1
      rwa [List.length_map, List.length_range] at this
    rw [List.getElem?_map, List.getElem?_range hj] at h1
    cases h1
    refine ⟨t, ?_⟩
    rw [hi]
    congr 1
    omega
  · rw [hS]
end
end L2
namespace K
open PySem PySem.Spec PyProof.Rows L2
open Sw (T3 Dist at?)
theorem rm65 {k : Nat} {A : Around} (r : Room k A) : A.units + 65 < cLine := by have := r.un; omega
def endD (x : Nat × List Nat) : PyData := .tuple [.int (x.1 : Nat), .tuple (x.2.map fun h => .int (h : Nat))]
theorem ints_lay : ∀ l : List Nat, PyData.canLayAll0 (l.map fun h => PyData.int (h : Nat)) = true
  | [] => by simp [PyData.canLayAll0]
  | h :: l => by simp [PyData.canLayAll0, PyData.canLay0, ints_lay l]
theorem ints_depth : ∀ l : List Nat, PyData.depthAll (l.map fun h => PyData.int (h : Nat)) ≤ 1
  | [] => by simp [PyData.depthAll]
  | h :: l => by
    have := ints_depth l
    simp only [List.map_cons, PyData.depthAll, PyData.depth]
    omega
theorem ints_eqv : ∀ l : List Nat, PyData.eqvAll (l.map fun h => PyData.int (h : Nat)) (l.map fun h => PyData.int (h : Nat)) = true
  | [] => by simp [PyData.eqvAll]
  | h :: l => by simp [PyData.eqvAll, PyData.eqv, ints_eqv l]
theorem endD_lay (x : Nat × List Nat) : (endD x).canLay0 = true := by simp [endD, PyData.canLay0, PyData.canLayAll0, ints_lay]
theorem endD_depth (x : Nat × List Nat) : (endD x).depth ≤ 4 := by
  have := ints_depth x.2
  simp only [endD, PyData.depth, PyData.depthAll]
  omega
theorem endD_eqv (x : Nat × List Nat) : PyData.eqv (endD x) (endD x) = true := by simp [endD, PyData.eqv, PyData.eqvAll, ints_eqv]
theorem endD_shaped (x : Nat × List Nat) : SeqAt.shaped (endD x) = true := by
  have := endD_depth x
  unfold SeqAt.shaped
  rw [endD_lay, decide_eq_true (by omega)]
  rfl
theorem ends_lay : ∀ l : List (Nat × List Nat), PyData.canLayAll0 (l.map endD) = true
  | [] => by simp [PyData.canLayAll0]
  | h :: l => by simp [PyData.canLayAll0, endD_lay, ends_lay l]
theorem ends_depth : ∀ l : List (Nat × List Nat), PyData.depthAll (l.map endD) ≤ 4
  | [] => by simp [PyData.depthAll]
  | h :: l => by
    have h1 := ends_depth l
    have h2 := endD_depth h
    simp only [List.map_cons, PyData.depthAll]
    omega
theorem ends_shaped (l : List (Nat × List Nat)) : SeqAt.shaped (.list (l.map endD)) = true := by
  have h1 := ends_depth l
  have h2 : PyData.depth (.list (l.map endD)) ≤ 64 := by
    simp only [PyData.depth]
    omega
  show (PyData.canLay0 (.list (l.map endD)) && decide (PyData.depth (.list (l.map endD)) ≤ 64)) = true
  rw [Bool.and_eq_true]
  exact ⟨by simp only [PyData.canLay0]; exact ends_lay l, decide_eq_true h2⟩
theorem ends_any {l : List (Nat × List Nat)} {x : Nat × List Nat} (h : x ∈ l) : ((l.map endD).any fun z => PyData.eqv z (endD x)) = true := by
  rw [List.any_map, List.any_eq_true]
  exact ⟨x, h, endD_eqv x⟩
theorem dp_ints {K : PySem.W.Frag} {H : Hp} : ∀ l : List Nat, Paired (Dp K H) (l.map fun h => V.int (h : Nat)) (l.map fun h => PyData.int (h : Nat))
  | [] => .nil
  | h :: l => .cons (.int _) (dp_ints l)
/-- the names: a list of houses put round -/
theorem perm_ints {n : Nat} {ys : List V} (h : ys.Perm ((List.range n).map fun i => V.int (i : Nat))) : ∃ ns : List Nat, ys = ns.map (fun i => V.int (i : Nat)) ∧ ns.Perm (List.range n) := by
  have key : ∀ zs : List V, (∀ y ∈ zs, ∃ b : Nat, y = V.int (b : Nat)) → ∃ bs : List Nat, zs = bs.map fun i => V.int (i : Nat) := by
    intro zs
    induction zs with
    | nil => intro _; exact ⟨[], rfl⟩
    | cons z zs ih =>
      intro hz
      obtain ⟨b, e⟩ := hz z List.mem_cons_self
      obtain ⟨bs, e2⟩ := ih fun y m => hz y (List.mem_cons_of_mem _ m)
      exact ⟨b :: bs, by rw [e, e2]; rfl⟩
  obtain ⟨ns, e⟩ := key ys fun y m => by
    obtain ⟨b, _, e⟩ := List.mem_map.mp (h.mem_iff.mp m)
    exact ⟨b, e.symm⟩
  refine ⟨ns, e, ?_⟩
  rw [e] at h
  have h2 := h.map (fun v => match v with | V.int a => a.toNat | _ => 0)
  rw [List.map_map, List.map_map] at h2
  have e1 : ∀ l : List Nat, l.map ((fun v => match v with | V.int a => a.toNat | _ => 0) ∘ fun i : Nat => V.int (i : Nat)) = l := fun l => by
    induction l with
    | nil => rfl
    | cons x l ih => rw [List.map_cons, ih]; rfl
  rw [e1, e1] at h2
  exact h2
theorem nodup_nat {N : List Nat} (hN : N.Nodup) {i j : Nat} {x : Nat} (a : N[i]? = some x) (b : N[j]? = some x) : i = j := by
  obtain ⟨h1, e1⟩ := List.getElem?_eq_some_iff.mp a
  obtain ⟨h2, e2⟩ := List.getElem?_eq_some_iff.mp b
  exact (List.getElem_inj hN).mp (e1.trans e2.symm)
def nmF (ns : List Nat) (i : Nat) : Nat := (ns[i]?).getD 0
theorem nm_at {ns : List Nat} {n i : Nat} (hp : ns.Perm (List.range n)) (hi : i < n) : (ns.map fun i => V.int (i : Nat))[i]? = some (V.int (nmF ns i : Nat)) := by
  have hl : ns.length = n := by rw [hp.length_eq, List.length_range]
  rw [List.getElem?_map, List.getElem?_eq_getElem (by omega)]
  unfold nmF
  rw [List.getElem?_eq_getElem (by omega)]
  rfl
theorem nm_lt {ns : List Nat} {n i : Nat} (hp : ns.Perm (List.range n)) (hi : i < n) : nmF ns i < n := by
  have hl : ns.length = n := by rw [hp.length_eq, List.length_range]
  unfold nmF
  rw [List.getElem?_eq_getElem (by omega)]
  exact List.mem_range.mp (hp.mem_iff.mp (List.getElem_mem _))
theorem nm_inj {ns : List Nat} {n : Nat} (hp : ns.Perm (List.range n)) : ∀ a b, a < n → b < n → nmF ns a = nmF ns b → a = b := fun a b ha hb e => by
  have hl : ns.length = n := by rw [hp.length_eq, List.length_range]
  have nd : ns.Nodup := hp.nodup_iff.mpr List.nodup_range
  have h1 : ns[a]? = some ns[a] := List.getElem?_eq_getElem (by omega)
  have h2 : ns[b]? = some ns[b] := List.getElem?_eq_getElem (by omega)
  unfold nmF at e
  rw [h1, h2] at e
  have e : ns[a] = ns[b] := e
  rw [e] at h1
  exact nodup_nat nd h1 h2
end K

/-! len(o), repr(o) of an own object -/
namespace SwO
open PySem PySem.Spec PyProof.Rows L2
section
variable {X : Cx} {n : Nat} {C f : Addr} {fd : FuncData} {ps : List Str} {sp : Sp}
/-- an own method run one step below the body, and what comes back -/
theorem below {A : Around} {pins : List (Addr × Obj)} {s : Shared} {σ : L2.St} {H : Hp} {a : Addr} {Q : VK} {R : Value → Shared → Prop} (F : FnOk X.prog X.w X.K X.mg X.base CX0 n f fd ps sp) (hb : Binds X.K fd ps []) (hr : Room n A) (hA : A.frames = X.A.frames) (I : Inv X pins σ H s)
    (hsp : sp [.ref a] H Q E0) (k : ∀ v u H' s', Inv X pins σ H' s' → RelV v u → Q v H' → R u s') : wpAny (model X.prog X.w) A (call (.ref f) [.ref a]) R X.xe s := by
  have e := I.env0
  have e0 : Env0 X.prog X.w X.K X.mg X.base A X.stack s H := ⟨by rw [hA]; exact e.frames, e.mod, e.bs, e.bsz, e.funs, e.frf, e.hok, e.bare⟩
  have hl := F.len _ _ _ _ hsp
  have r2 : Vals [V.ref a] [Value.ref a] := .cons rfl .nil
  refine wpAny_call (codeAny_mono (F.run A X.stack s H ⟨[.ref a], []⟩ [.ref a] [.ref a] Q E0 hr e0 (by
    have := hb s [.ref a] I.kIn (by simpa using hl)
    simpa using this) r2 hsp) fun r s' hq => ?_)
  match r, hq with
  | .error e, hq => exact hq.elim
  | .ok (.ret u), hq =>
    obtain ⟨z, H', I', rz, qz⟩ := I.after hq
    exact k z u H' s' I' rz qz
theorem call_lenOwn (F : FnOk X.prog X.w X.K X.mg X.base CX0 n f fd ps sp) (hs : PySem.W.findIn X.K (.ref C) "__len__" = some (some (.ref f))) (hf : PySem.W.isFn X.K (.ref f) = true) (hb : Binds X.K fd ps []) (hr : Room n X.A.in1) :
    CallR X (.builtin "len") (fun xs H Q => ∃ (a dx : Addr) (fs : List (Str × V)), xs = [.ref a] ∧ H a = some (.ins C dx fs) ∧ sp [.ref a] H (fun v H' => ∃ m : Nat, v = .int (m : Nat) ∧ m ≤ 1000 ∧ Q (.int (m : Nat)) H') E0) := by
  intro pins s σ H xs us Q I rs h
  obtain ⟨a, dx, fs, rfl, ha, hsp⟩ := h
  obtain ⟨u, rfl, ru⟩ := L2.vals1 rs
  cases ru
  obtain ⟨mA, J, _⟩ := ins_get I.hok ha
  obtain ⟨od, J, _⟩ := J.look
  obtain ⟨m, hF⟩ := I.fr
  refine PySem.W.len_K hF I.ok.mod.kin J hs hf ?_
  refine below F hb hr rfl I hsp fun v u H' s' I' rv q => ?_
  obtain ⟨m, rfl, hm, q⟩ := q
  obtain ⟨t, rfl⟩ := rv
  exact ⟨⟨by omega, by omega⟩, .int (m : Nat), H', I'.tok _, ⟨_, rfl⟩, q⟩
theorem call_reprOwn (F : FnOk X.prog X.w X.K X.mg X.base CX0 n f fd ps sp) (hs : PySem.W.findIn X.K (.ref C) "__repr__" = some (some (.ref f))) (hf : PySem.W.isFn X.K (.ref f) = true) (hb : Binds X.K fd ps []) (hr : Room n X.A.in1) (hu : X.A.in1.units < cLine) :
    CallR X (.builtin "repr") (fun xs H Q => ∃ (a dx : Addr) (fs : List (Str × V)), xs = [.ref a] ∧ H a = some (.ins C dx fs) ∧ sp [.ref a] H (fun v H' => ∃ m : Str, v = .str m ∧ Q (.str m) H') E0) := by
  intro pins s σ H xs us Q I rs h
  obtain ⟨a, dx, fs, rfl, ha, hsp⟩ := h
  obtain ⟨u, rfl, ru⟩ := L2.vals1 rs
  cases ru
  obtain ⟨mA, J, _⟩ := ins_get I.hok ha
  obtain ⟨od, J, _⟩ := J.look
  obtain ⟨m, hF⟩ := I.fr
  refine PySem.W.repr_K hu hF I.ok.mod.kin J hs hf ?_
  refine below F hb hr rfl I hsp fun v u H' s' I' rv q => ?_
  obtain ⟨m, rfl, q⟩ := q
  obtain ⟨t, rfl⟩ := rv
  exact ⟨.str m, H', I', ⟨_, rfl⟩, q⟩
end
end SwO

/-! what _law_stands compares -/
namespace K
open PySem PySem.Spec PyProof.Rows L2
/-- a list of n empty lists -/
def Emp (H : Hp) (p : Addr) (n : Nat) : Prop := ∃ us : List Addr, H p = some (.lst (us.map V.ref)) ∧ us.length = n ∧ ∀ u ∈ us, H u = some (.lst [])
theorem Emp.same {H H' : Hp} {p : Addr} {n : Nat} (h : Emp H p n) (s : Same H H') : Emp H' p n := by
  obtain ⟨us, h1, h2, h3⟩ := h
  exact ⟨us, s _ _ h1, h2, fun u m => s _ _ (h3 u m)⟩
theorem eqv_nil {H : Hp} {p q : Addr} {m : Nat} (h1 : H p = some (.lst [])) (h2 : H q = some (.lst [])) : Eqv (m + 1) H (.ref p) (.ref q) :=
  .inr ⟨p, q, [], [], rfl, rfl, .inl ⟨h1, h2⟩, rfl, (by show 0 ≤ 1000; decide), fun i u v hu => by simp at hu⟩
theorem eqv_emp {H : Hp} {p q : Addr} {m n : Nat} (h1 : Emp H p n) (h2 : Emp H q n) (hn : n ≤ 1000) : Eqv (m + 2) H (.ref p) (.ref q) := by
  obtain ⟨us, a1, l1, e1⟩ := h1
  obtain ⟨vs, a2, l2, e2⟩ := h2
  refine .inr ⟨p, q, _, _, rfl, rfl, .inl ⟨a1, a2⟩, by rw [List.length_map, List.length_map, l1, l2], by rw [List.length_map, l1]; exact hn, fun i u v hu hv => ?_⟩
  rw [List.getElem?_map] at hu hv
  obtain ⟨x, ex, rfl⟩ := Option.map_eq_some_iff.mp hu
  obtain ⟨y, ey, rfl⟩ := Option.map_eq_some_iff.mp hv
  exact eqv_nil (e1 x (List.mem_of_getElem? ex)) (e2 y (List.mem_of_getElem? ey))
theorem eqv_flatL {H : Hp} {p q : Addr} {m : Nat} {xs : List V} (h1 : H p = some (.tup xs)) (h2 : H q = some (.tup xs)) (hx : xs.length ≤ 1000) (hf : ∀ x ∈ xs, flat x = true) : Eqv (m + 2) H (.ref p) (.ref q) :=
  .inr ⟨p, q, xs, xs, rfl, rfl, .inr ⟨h1, h2⟩, rfl, hx, fun i u v hu hv => by rw [hu] at hv; cases hv; exact .inl ⟨rfl, hf u (List.mem_of_getElem? hu)⟩⟩
/-- the row of a slip, told and kept -/
theorem eqv_row {H : Hp} {t t' wh pa wh' pa' : Addr} {m : Nat} {i lo age : Int} (h1 : H t = some (.tup [.int i, .int lo, .ref wh, .non, .ref pa, .int age, .str "live"])) (h2 : H t' = some (.tup [.int i, .int lo, .ref wh', .non, .ref pa', .int age, .str "live"]))
    (a1 : H wh = some (.tup [.str "goal", .int i])) (a2 : H wh' = some (.tup [.str "goal", .int i])) (b1 : H pa = some (.tup [.int i])) (b2 : H pa' = some (.tup [.int i])) : Eqv (m + 3) H (.ref t) (.ref t') := by
  refine .inr ⟨t, t', _, _, rfl, rfl, .inr ⟨h1, h2⟩, rfl, (by show 7 ≤ 1000; decide), fun j u v hu hv => ?_⟩
  match j, hu, hv with
  | 0, hu, hv => cases hu; cases hv; exact .inl ⟨rfl, rfl⟩
  | 1, hu, hv => cases hu; cases hv; exact .inl ⟨rfl, rfl⟩
  | 2, hu, hv => cases hu; cases hv; exact eqv_flatL a1 a2 (by show 2 ≤ 1000; decide) (fun x hx => by simp at hx; rcases hx with rfl | rfl <;> rfl)
  | 3, hu, hv => cases hu; cases hv; exact .inl ⟨rfl, rfl⟩
  | 4, hu, hv => cases hu; cases hv; exact eqv_flatL b1 b2 (by show 1 ≤ 1000; decide) (fun x hx => by simp at hx; rw [hx]; rfl)
  | 5, hu, hv => cases hu; cases hv; exact .inl ⟨rfl, rfl⟩
  | 6, hu, hv => cases hu; cases hv; exact .inl ⟨rfl, rfl⟩
  | j + 7, hu, hv => cases hu
/-- no keys to walk -/
theorem lc_keys0 {d : Addr} {o : Obj} {g : TG} {tt : TT} {te : TE} {vs : List Nat} {σ : L2.St} {Ha : Hp} {D : Addr} {Z : Hp → Prop} (hd : upd Ha D (.lst []) d = some (.frz o (.dK []))) (out : Z (upd Ha D (.lst []))) :
    ∃ W : Nat → Nat → Hp → Prop, (∃ m, W 0 m (upd Ha D (.lst []))) ∧ ∀ i m H, W i m H →
      ((Itk d o []).stop i H ∧ Z H) ∨ ((Itk d o []).go i H ∧ ∃ Nx : Hp → Prop, (∀ H', Nx H' → ∃ m', m' < m ∧ W (i + 1) m' H') ∧ ∀ x H', (Itk d o []).yld i H x H' → g x (wipe σ vs) H' fun σ2 H2 => wipe σ2 vs = wipe σ vs ∧ tt σ2 H2 fun b H3 =>
        if b = true then te σ2 H3 fun y H4 => ∃ acc, H4 D = some (.lst acc) ∧ acc.length < sizeLine ∧ Nx (upd H4 D (.lst (acc ++ [y]))) else Nx H3) :=
  ⟨fun _ _ H' => H' = upd Ha D (.lst []), ⟨0, rfl⟩, fun i m H' e => .inl (by subst e; exact ⟨⟨hd, Nat.zero_le _⟩, out⟩)⟩
end K

/-! a comprehension whose element calls lambdas of the frame around it -/
namespace LamV
open PySem PySem.Spec PyProof.Rows L2 LamX
/-- an element's reading in the block B; what is captured stands as the frame X has it -/
def ElemI (X B : Cx) (vs : List Nat) (elt : Expr) (te : TE) : Prop := ∀ (pins : List (Addr × Obj)) {σw : L2.St} (toX : ∀ {pi : List (Addr × Obj)} {τ : L2.St} {G : Hp} {z : Shared}, Inv B pi τ G z → Inv X pins σw G z) (pi : List (Addr × Obj)) (z : Shared) (τ : L2.St) (G : Hp) (Q : VK), Inv B pi τ G z → wipe τ vs = σw → te τ G Q →
  wpAny (model B.prog B.w) B.A (eval elt B.env) (EP B pi τ Q) B.xe z
section
variable {X : Cx}
/-- [elt for tg in iter if ifs] as a value, its element told of the frame's own state too -/
theorem pe_lcI {elt tg iter : Expr} {ifs : List Expr} {scope : Scope} {own : List (Str × Nat)} {pos : Pos} {wi : TI} {g : TG} {tt : TT} {te : TE} 
    (hc : X.calm = true) (hN : X.N.Nodup) (hi : PI X tg iter wi) (ok : BlkOk X.N X.env.scope scope own)
    (hg : ∀ (s : Shared) (H : Hp) (C : Addr) (cl : List (Str × Addr)) (fp : List Addr), PG (X.blk s H scope (compEnvC scope cl C X.env) fp) tg g)
    (ht : ∀ (s : Shared) (H : Hp) (C : Addr) (cl : List (Str × Addr)) (fp : List Addr), PTs (X.blk s H scope (compEnvC scope cl C X.env) fp) ifs tt)
    (he : ∀ (s : Shared) (H : Hp) (C : Addr) (cl : List (Str × Addr)) (fp : List Addr), ElemI X (X.blk s H scope (compEnvC scope cl C X.env) fp) (own.map (·.2)) elt te) (hs : ∀ x, foldedSetIterable iter X.env x = pure x := by intro _; rfl) :
    PE X (.ListComp elt [⟨tg, iter, ifs, 0⟩] scope pos) (tLc wi g tt te (own.map (·.2))) := by
  refine ⟨fun pins s σ H Q I h => ?_⟩
  rw [eval_ListComp]
  have cells : ∀ y ∈ scope.names, y.2 = .free → ∃ c, X.env.cells.lookup y.1 = some c := fun y hy e => (ok.free y hy e).elim (fun k => I.ok.has _ (.inl k)) (fun k => I.ok.has _ (.inr k))
  refine comprehension_at (use := none) rfl hs (closure_ok cells) ok.kind (fun y hy e => by rw [ok.uniq y hy, e]) (thn (hi.run pins s σ H _ I h) fun xv s1 hx => thn hx fun itv s2 hit => ?_)
  obtain ⟨it, fp, tn, J, H2, eit, I2, T, st2, f2, q⟩ := hit
  subst eit
  refine wpAny_newObj_type (newEnv_comp ?_) (by show 0 ≤ sizeLine; decide)
  generalize hD : s2.heap.objs.size = D
  obtain ⟨Wt, ⟨m0, w0⟩, turn⟩ := q D (I2.hok.fresh (Nat.le_of_eq hD))
  generalize es3 : ({ s2 with heap := s2.heap.push { cls := .type "list", data := .seq ([] : List Value).toArray } } : Shared) = s3
  have hp3 : s3.heap = s2.heap.push { cls := .type "list", data := .seq ([] : List Value).toArray } := by rw [← es3]
  have I3 : Inv X pins σ (upd H2 D (.lst [])) s3 := by
    rw [← es3]
    exact I2.laid (t' := s2.toks) (fun b o e => Heap.get?_push_of_some _ e) (Nat.le_of_eq hD) ⟨Nat.zero_le _, [], 0, .nil, by rw [← hD]; exact Heap.get?_push_size _ rfl⟩
  have small : ∀ b ∈ fp, b < s2.heap.objs.size := fun b hb => let ⟨o, e, _⟩ := T.obj _ _ st2 b hb; Heap.lt_size e
  have f3 : ∀ b ∈ fp, FpOk X pins (upd H2 D (.lst [])) b ∧ b < s3.heap.objs.size := fun b hb => by
    have lt := small b hb
    refine ⟨⟨?_, (f2 b hb).2⟩, by rw [hp3, Heap.size_push]; exact Nat.lt_succ_of_lt lt⟩
    rw [upd_ne (fun z => by rw [← hD] at z; exact absurd lt (by rw [z]; exact Nat.lt_irrefl _))]
    exact (f2 b hb).1
  have st3 : tn 0 s3.heap := T.keep _ _ _ st2 fun b _ o e => by rw [hp3]; exact Heap.get?_push_of_some _ e
  have I4 := block_start I3 ok hN f3
  have pg := hg s3 (upd H2 D (.lst [])) s3.heap.objs.size (cellsFrom (s3.heap.objs.size + 1) scope.names (cloFrom X.env.cells scope.names [])) fp
  have pt := ht s3 (upd H2 D (.lst [])) s3.heap.objs.size (cellsFrom (s3.heap.objs.size + 1) scope.names (cloFrom X.env.cells scope.names [])) fp
  have pe := he s3 (upd H2 D (.lst [])) s3.heap.objs.size (cellsFrom (s3.heap.objs.size + 1) scope.names (cloFrom X.env.cells scope.names [])) fp
  show codeAny _ _ (.compStart (.ListComp elt [⟨tg, iter, ifs, 0⟩] scope pos) 0 (.ref it) (.ref D) (compEnvC scope (cellsFrom (s3.heap.objs.size + 1) scope.names (cloFrom X.env.cells scope.names [])) s3.heap.objs.size X.env))
    (compEnds (model X.prog X.w) X.A X.xe none (EP X pins σ Q) (.ref D) (compEnvC scope (cellsFrom (s3.heap.objs.size + 1) scope.names (cloFrom X.env.cells scope.names [])) s3.heap.objs.size X.env)) { s3 with heap := pushCells (s3.heap.push { cls := .type "dict", data := .dict #[] }) scope.names }
  have nfp : ∀ b ∈ fp, (upd H2 D (.lst [])) b = none := fun b hb => (f3 b hb).1.1
  have cfr : (compEnvC scope (cellsFrom (s3.heap.objs.size + 1) scope.names (cloFrom X.env.cells scope.names [])) s3.heap.objs.size X.env).frame = X.env.frame := rfl
  have cL : (compEnvC scope (cellsFrom (s3.heap.objs.size + 1) scope.names (cloFrom X.env.cells scope.names [])) s3.heap.objs.size X.env).locals = s3.heap.objs.size := rfl
  generalize compEnvC scope (cellsFrom (s3.heap.objs.size + 1) scope.names (cloFrom X.env.cells scope.names [])) s3.heap.objs.size X.env = ce at I4 pg pt pe cfr cL ⊢
  generalize upd H2 D (.lst []) = H3 at I3 I4 pg pt pe w0 nfp f3
  generalize es4 : ({ s3 with heap := pushCells (s3.heap.push { cls := .type "dict", data := .dict #[] }) scope.names } : Shared) = s4 at I4 ⊢
  have st4 : tn 0 s4.heap := T.keep _ _ _ st3 fun b _ o e => by rw [← es4]; exact pushCells_keeps _ _ _ _ (Heap.get?_push_of_some _ e)
  have stat : ∀ {τ : L2.St} {G : Hp} {z : Shared}, Inv (X.blk s3 H3 scope ce fp) [] τ G z → (∀ b ∈ fp, G b = none) → ∀ b ∈ fp, FpOk (X.blk s3 H3 scope ce fp) [] G b := fun {τ G z} K hn b hb =>
    ⟨hn b hb, (K.ok.exf b hb).1, K.ok.exfs b hb, .inl hb, fun x c e => (K.ok.exf b hb).2 x c e, fun p hp => absurd (show p ∈ ([] : List (Addr × Obj)) ++ [] from hp) (by simp)⟩
  have back : ∀ {pi : List (Addr × Obj)} {τ : L2.St} {G : Hp} {z : Shared}, Inv (X.blk s3 H3 scope ce fp) pi τ G z → Inv X pins σ G z := fun {pi τ G z} K =>
    I3.call' (ch := fp) K.os K.base K.hok K.bare fun b hb => ⟨(f3 b hb).1.2.2.2.1, (f3 b hb).1.2.1, (f3 b hb).1.2.2.2.2.1, (f3 b hb).1.2.2.2.2.2⟩
  have atC : ∀ {G : Hp}, G ce.locals = none → FpOk X pins G ce.locals := fun {G} n => I3.fpOk (by rw [cL]; exact Nat.le_refl _) n
  have loop : codeAny (model X.prog X.w) X.A (.compLoop (.ListComp elt [⟨tg, iter, ifs, 0⟩] scope pos) 0 (.ref it) (.ref D) ce) (compEnds (model X.prog X.w) X.A X.xe none (EP X pins σ Q) (.ref D) ce) s4 := by
    refine compLoop_any (fun n z => ∃ i G, Inv (X.blk s3 H3 scope ce fp) [] (wipe σ (own.map (·.2))) G z ∧ tn i z.heap ∧ (∀ b ∈ fp, G b = none) ∧ Wt i n G) ?_ m0 ⟨0, H3, I4, st4, nfp, w0⟩
    rintro n s5 ⟨i, H5, I5, st5, n5, w5⟩
    rcases turn i n H5 w5 with ⟨stop, qq⟩ | ⟨go, Nx, hNx, step⟩
    · refine thnF (T.done (X.blk s3 H3 scope ce fp) rfl rfl rfl hc i [] s5 _ H5 (fun _ _ => False) I5 (stat I5 n5) st5 stop) fun r s6 ⟨hr, I6⟩ => ?_
      subst hr
      obtain ⟨m, hn, _⟩ := I6.loc
      obtain ⟨b0, b1, b2, b3, b4, b5⟩ := atC (G := H5) I6.free
      refine ⟨m, hn, fun h'' sb => ?_⟩
      exact ⟨.ref D, H5, (back I6).turned (t' := s6.toks) (fun b o hb e => (sb.2 b hb).trans e) b0 b1 b3 b4 b5, rfl, qq⟩
    · refine thnF (T.item (X.blk s3 H3 scope ce fp) rfl rfl rfl hc i [] s5 _ H5 (fun _ _ => False) I5 (stat I5 n5) st5 go) fun r s6 ⟨v, hr, h6⟩ => ?_
      subst hr
      refine thnF h6 fun _ s7 ⟨x, H7, I7, r7, y7, st7, n7⟩ => ?_
      refine thnF (pg.run _ s7 _ H7 x v _ (I7.pinned (stat I7 n7) (T.obj _ _ st7)) r7 (step x H7 y7)) fun _ s8 ⟨σ8, H8, I8, hw8, q8⟩ => ?_
      refine thnF (pt.run _ s8 σ8 H8 _ I8 q8) fun b s9 ⟨H9, I9, q9⟩ => ?_
      have fin : ∀ {z : Shared} {G : Hp}, Inv (X.blk s3 H3 scope ce fp) ([] ++ pinsAt fp s7.heap) σ8 G z → Nx G → ∃ m, m < n ∧ ∃ i G, Inv (X.blk s3 H3 scope ce fp) [] (wipe σ (own.map (·.2))) G z ∧ tn i z.heap ∧ (∀ b ∈ fp, G b = none) ∧ Wt i m G := fun {z G} K nx => by
        obtain ⟨m', lt, w'⟩ := hNx G nx
        have pin' : ∀ b ∈ fp, ∀ o, s7.heap.get? b = some o → z.heap.get? b = some o ∧ G b = none := fun b hb o e => by
          have q := K.pin (b, o) (List.mem_append_right _ (List.mem_append_right _ (mem_pinsAt hb e)))
          exact ⟨q.1, q.2.1⟩
        refine ⟨m', lt, i + 1, G, (K.unpinned (pins := [])).weak (by rw [← hw8, wipe_length]) (fun j v e => ?_), T.keep _ _ _ st7 fun b hb o e => (pin' b hb o e).1, fun b hb => ?_, w'⟩
        · rw [← hw8] at e
          exact (wipe_some e).1
        · obtain ⟨o, e, _⟩ := T.obj _ _ st7 b hb
          exact (pin' b hb o e).2
      cases b with
      | false => exact fin I9 q9
      | true =>
        have toX : ∀ {pi : List (Addr × Obj)} {τ : L2.St} {G : Hp} {z : Shared}, Inv (X.blk s3 H3 scope ce fp) pi τ G z → Inv X pins (wipe σ8 (own.map (·.2))) G z := fun {pi τ G z} K => (back K).weak (by rw [hw8, wipe_length]) (fun j v e => by
          rw [hw8] at e
          exact (wipe_some e).1)
        exact thnF (pe pins toX _ s9 σ8 H9 _ I9 rfl q9) fun y s10 ⟨yv, H10, I10, r10, acc, hD10, hz10, nx⟩ => app_ok (X := X.blk s3 H3 scope ce fp) I10 hD10 hz10 r10 fun s11 I11 => fin I11 nx
  exact codeAny_compStart_list loop (T.self X.A 0 _ _ _ st4 loop)
end
end LamV

/-! a kept lambda, called in the def that got it -/
namespace LamV
open PySem PySem.Spec PyProof.Rows L2 LamX
/-- a lambda's names: captured ones, globals, own ones that the frame around has not -/
structure LamN (N : List Str) (sc scope : Scope) : Prop where
  kind : scope.kind = .function
  co : scope.isCoroutine = false
  gen : scope.isGenerator = false
  cell : ∀ y ∈ scope.names, y.2 ≠ .cell
  own : ∀ y ∈ scope.names, y.2 = .local → y.1 ∉ N
  free : ∀ y ∈ scope.names, y.2 = .free → sc.names.lookup y.1 = some .cell
def lamNB (N : List Str) (sc scope : Scope) : Bool :=
  decide (scope.kind = .function) && !scope.isCoroutine && !scope.isGenerator && scope.names.all fun y => !decide (y.2 = .cell) && (!decide (y.2 = .local) || !N.contains y.1) && (!decide (y.2 = .free) || decide (sc.names.lookup y.1 = some .cell))
theorem lamN_by {N : List Str} {sc scope : Scope} (h : lamNB N sc scope = true) : LamN N sc scope := by
  unfold lamNB at h
  simp only [Bool.and_eq_true, Bool.or_eq_true, Bool.not_eq_true', decide_eq_true_eq, decide_eq_false_iff_not, List.all_eq_true] at h
  obtain ⟨⟨⟨h1, h2⟩, h3⟩, h4⟩ := h
  refine ⟨h1, h2, h3, fun y hy => (h4 y hy).1.1, fun y hy e m => ?_, fun y hy e => ?_⟩
  · rcases (h4 y hy).1.2 with z | z
    · exact z e
    · rw [List.contains_iff_mem.mpr m] at z
      cases z
  · rcases (h4 y hy).2 with z | z
    · exact absurd e z
    · exact z
section
variable {X : Cx} {pins : List (Addr × Obj)} {σ : L2.St} {H HZ : Hp} {s s1 : Shared}
theorem lam_begin {A : Around} {outer : List Env} {E : XK} {scope : Scope} {f c' : Addr} {h₁ : Heap} {tk : Nat} {mL : Str → Option Value} (I : Inv X pins σ H s) (L : LamN X.N X.env.scope scope) (e0 : Env0 X.prog X.w X.K X.mg X.base A outer s1 HZ) (hd : A.handled = none)
    (un : Un (frs X.stack) [] H HZ s.heap s1.heap) (hns : h₁.Ns s1.heap.objs.size mL) (kp : ∀ b o, s1.heap.get? b = some o → h₁.get? b = some o) :
    Inv (lamCx X A outer s1 HZ E scope f c') [] σ HZ { s1 with heap := h₁, toks := tk } := by
  have has : ∀ {y}, (y, NameKind.free) ∈ scope.names → ∃ c, X.env.cells.lookup y = some c := fun {y} hy => I.ok.has _ (.inl (L.free _ hy rfl))
  have cm : ∀ {y c}, (cloFrom X.env.cells scope.names []).lookup y = some c → X.env.cells.lookup y = some c := fun {y c} e => by
    rcases cloFrom_mem (PySem.mem_of_lookup e) with m | ⟨m, r⟩
    · cases m
    · obtain ⟨c1, hc⟩ := has m
      rw [r, hc]
      rfl
  have look : ∀ {y}, scope.names.lookup y = some .free → ∃ c, (cloFrom X.env.cells scope.names []).lookup y = some c := fun {y} hl => mem_lookup (cloFrom_has (cells := X.env.cells) (acc := []) (PySem.mem_of_lookup hl))
  have cellK : ∀ {c : Addr} {v : Option Value}, H c = none → s.heap.IsCell c v → h₁.IsCell c v := fun {c v} n ⟨o, ho, hd⟩ => by
    obtain ⟨sl, q⟩ := un.any ho n (by simp)
    exact ⟨_, kp _ _ q, hd⟩
  have no : ∀ b : Addr, b ∉ (lamCx X A outer s1 HZ E scope f c').ex := fun b z => absurd (show b ∈ ([] : List Addr) from z) (by simp)
  refine ⟨⟨e0.mod, L.kind, rfl, rfl, Nat.le_refl _, fun y z c e1 e2 => I.ok.inj y z c (cm e1) (cm e2), fun y hy => ?_, fun y c z _ => ?_, fun _ => hd, Around.frames_deeper e0.frames, .inr ⟨rfl, rfl⟩, fun b z => absurd z (no b), e0.bs, e0.bsz, fun b _ _ => no b, fun b z => absurd z (no b), e0.funs, e0.frf⟩,
    rfl, e0.bare, Un.kept kp, ⟨mL, hns, fun i y v e1 e2 e3 => ?_⟩, fun y c e => ?_, e0.hok.fresh (Nat.le_refl _), fun y c e => ?_, fun q hq => absurd (show q ∈ ([] : List (Addr × Obj)) ++ [] from hq) (by simp), e0.hok.kept kp, I.len⟩
  · have hy : scope.names.lookup y = some .cell ∨ scope.names.lookup y = some .free := hy
    rcases hy with hy | hy
    · exact absurd rfl (L.cell _ (PySem.mem_of_lookup hy))
    · exact look hy
  · have z : false = true := z
    cases z
  · have e3 : Vis scope y := e3
    rcases e3 with k | k | k
    · exact absurd (List.mem_of_getElem? e1) (L.own _ (PySem.mem_of_lookup k) rfl)
    · exact absurd rfl (L.cell _ (PySem.mem_of_lookup k))
    · obtain ⟨m, hn, hl⟩ := I.loc
      have kc := L.free _ (PySem.mem_of_lookup k) rfl
      obtain ⟨w', r, q⟩ := hl i y v e1 e2 (.inr (.inl kc))
      obtain ⟨c2, h2⟩ := look k
      refine ⟨w', r, .inr ⟨.inr k, c2, h2, ?_⟩⟩
      have c1 := cm h2
      rcases q with ⟨k', _⟩ | ⟨_, c3, e', z⟩
      · have k' : X.env.scope.names.lookup y = some .local := k'
        rw [show X.env.scope.names.lookup y = some .cell from kc] at k'
        cases k'
      · rw [c1] at e'
        cases e'
        exact cellK (I.freeC y _ c1) z
  · obtain ⟨w', z⟩ := I.cell y c (cm e)
    exact ⟨w', cellK (I.freeC y c (cm e)) z⟩
  · obtain ⟨v, o, ho, hd⟩ := I.cell y c (cm e)
    exact un.free c o ho (I.freeC y c (cm e)) (by simp)
/-- what the lambda binds when it is called bare -/
def BindV (scope : Scope) (q : Str) (params : Arguments) (body : Expr) (cl : List (Str × Addr)) (c' : Addr) (dV : Value) (HZ : Hp) : Prop :=
  ∀ (P : Program) (w : World) (h : Heap), HOk P w HZ h → ∀ (pm ctv : Value), ∃ bs : List (Str × Value), (∀ y ∈ bs, scope.names.lookup y.1 = some .local) ∧ ∀ (M : Model) (A : Around) (Q : List (Str × Value) → Shared → Prop) (E : Value → Shared → Prop) (z : Shared), z.heap = h → Q bs z → wpAny M A (bindArgs (lfn q params body scope cl pm (.ref c') ctv dV) ⟨[], []⟩) Q E z
/-- calling f in the def g: by the reading tl -/
def ActOk (X : Cx) (Ng : List Str) (x : Str) (sg : Scope) (g : Addr) (cdg : Value) (a q : Str) (k : Nat) (f c' : Addr) (σ : L2.St) (tl : XK → Hp → VK → Prop) : Prop :=
  ∀ (pins : List (Addr × Obj)) (s : Shared) (H : Hp), Inv X pins σ H s → Room (k + 1) (X.A.deeper (envOfC x sg s.heap.objs.size g cdg)) → ∀ (W : WX) (pn : List (Addr × Obj)) (xe : Value → Shared → Prop) (E : XK) (p1 p2 : Pos),
    Takes ((cxOf C8.CX0 X.prog X.w X.K X.mg X.base Ng x sg g cdg X.A X.stack s H C8.E0).tr pn xe) W → (∀ cls d σ' H', E cls d H' → W cls d σ' H') →
      PE ((cxOf C8.CX0 X.prog X.w X.K X.mg X.base Ng x sg g cdg X.A X.stack s H C8.E0).tr pn xe) (.Call (.Name a p1) [] [] p2) (fun σZ HZ Q => σZ[0]? = some (some (.ref f)) ∧ HZ c' = some (CodeO c' q) ∧ tl E HZ Q)
theorem act_lam {Ng : List Str} {x a q : Str} {sg : Scope} {g f c' : Addr} {cdg dV : Value} {params : Arguments} {body : Expr} {scope : Scope} {k : Nat} {t : XK → TE} (L : LamN X.N X.env.scope scope) (hq : X.env.qual ++ "<lambda>" = q)
    (hbody : ∀ (A : Around) (outer : List Env) (s : Shared) (H : Hp) (E : XK) (f c' : Addr), Room k (A.deeper (lamEnv X scope s.heap.objs.size f c')) → PE (lamCx X A outer s H E scope f c') body (t E))
    (hN : Ng[0]? = some a) (hv : Vis sg a) (hd : (a == ("__debug__" : Str)) = false := by decide) (hcd : (a == ("__classdict__" : Str)) = false := by decide) :
    ActOk X Ng x sg g cdg a q k f c' σ (fun E HZ Q => HZ f = some (LamO f q params body scope (cloFrom X.env.cells scope.names []) c' dV) ∧ BindV scope q params body (cloFrom X.env.cells scope.names []) c' dV HZ ∧ t E σ HZ Q) := by
  intro pins s H I hr W pn xe E p1 p2 tk hW
  refine ⟨fun pinsZ sZ σZ HZ Q IZ h => ?_⟩
  obtain ⟨hs, hc, hf, hbd, ht⟩ := h
  refine wpAny_Call_Name_kw (thn ((pe_var (pos := p1) (i := 0) hN hv hd hcd).run pinsZ sZ σZ HZ (fun v H1 => v = .ref f ∧ H1 = HZ) IZ ⟨.ref f, hs, rfl, rfl⟩) fun u s1 ⟨v, H1, I1, r1, ev, eH⟩ => ?_)
  subst ev
  rw [eH] at I1
  obtain rfl : u = Value.ref f := r1
  obtain ⟨⟨pm, ctv, of1⟩, _, _⟩ := I1.hok f _ hf
  refine PySem.W.callWith_F0 ⟨_, _, _, _, of1⟩ ?_
  have un : Un (frs X.stack) [] H HZ s.heap s1.heap := I1.base
  obtain ⟨⟨oc, vs, tq, hoc, hdc, hvc⟩, _, _⟩ := I1.hok c' _ hc
  obtain ⟨bs, hbs, hbind⟩ := hbd X.prog X.w s1.heap I1.hok pm ctv
  have rc : codeAny (model X.prog X.w) (X.A.deeper (envOfC x sg s.heap.objs.size g cdg)) (.call (.ref f) ⟨[], []⟩) (CR (L2.CX X.prog X.w) (envOfC x sg s.heap.objs.size g cdg :: X.stack) X.prog X.w HZ s1 Q E) s1 := by
    refine PySem.W.kla_callFunE hr.depth of1 rfl L.co L.gen rfl ⟨c', oc, vs, tq, rfl, hoc, hdc, hvc⟩ ?_
    refine hbind _ _ _ _ s1 rfl (wpAny_newFunctionEnv L.cell hbs (fun h₁ hns hsb => ⟨I1.nolimit.fresh _ hsb, ?_⟩) L.kind)
    subst hq
    show codeAny _ _ (.expr body (lamEnv X scope s1.heap.objs.size f c')) _ _
    have kp : ∀ b o, s1.heap.get? b = some o → h₁.get? b = some o := fun b o e => hsb.extBut b o (Nat.ne_of_lt (Heap.lt_size e)) (Heap.get?_push_of_some _ e)
    have J : Inv (lamCx X (X.A.deeper (envOfC x sg s.heap.objs.size g cdg)) (envOfC x sg s.heap.objs.size g cdg :: X.stack) s1 HZ E scope f c') [] σ HZ { s1 with heap := h₁, toks := s1.toks + bs.length } := lam_begin I L I1.env0 hr.hd un hns kp
    refine PySem.W.kla_codeExpr (wpAny_mono ((hbody _ _ s1 HZ E f c' (hr.deeper _)).run [] _ _ HZ Q J ht) (fun v z hq => ?_) fun e z hq => hq)
    obtain ⟨w', H', J', rv, q'⟩ := hq
    exact ⟨w', H', J'.os, J'.bare, J'.base, J'.hok, rv, q'⟩
  have hx : Passes (L2.CX X.prog X.w) ((cxOf C8.CX0 X.prog X.w X.K X.mg X.base Ng x sg g cdg X.A X.stack s H C8.E0).tr pn xe) E := passes_call tk hW
  refine wpAny_call (codeAny_mono rc fun r z hq => ?_)
  cases r with
  | error e => exact hx pinsZ σZ HZ s1 e z I1 hq
  | ok fl =>
    cases fl with
    | ret u => exact I1.after hq
    | next => exact False.elim hq
    | brk => exact False.elim hq
    | cont => exact False.elim hq
/-- .. the function's object under a name -/
theorem act_of {Ng : List Str} {x a q : Str} {sg : Scope} {g f c' : Addr} {cdg dV : Value} {params : Arguments} {body : Expr} {scope : Scope} {k : Nat} {t : XK → TE} {o : HO} (hO : LamO f q params body scope (cloFrom X.env.cells scope.names []) c' dV = o) (L : LamN X.N X.env.scope scope) (hq : X.env.qual ++ "<lambda>" = q)
    (hbody : ∀ (A : Around) (outer : List Env) (s : Shared) (H : Hp) (E : XK) (f c' : Addr), Room k (A.deeper (lamEnv X scope s.heap.objs.size f c')) → PE (lamCx X A outer s H E scope f c') body (t E))
    (hN : Ng[0]? = some a) (hv : Vis sg a) (hd : (a == ("__debug__" : Str)) = false := by decide) (hcd : (a == ("__classdict__" : Str)) = false := by decide) :
    ActOk X Ng x sg g cdg a q k f c' σ (fun E HZ Q => HZ f = some o ∧ BindV scope q params body (cloFrom X.env.cells scope.names []) c' dV HZ ∧ t E σ HZ Q) := by
  subst hO
  exact act_lam L hq hbody hN hv hd hcd
/-- g(y) as the element of a comprehension, y a kept lambda -/
def tAsk (X : Cx) (Ng : List Str) (x : Str) (sg : Scope) (g : Addr) (cdg : Value) (a q : Str) (k j : Nat) (vs : List Nat) (TT : (XK → Hp → VK → Prop) → Hp → VK → Prop) : TE := fun τ G Q =>
  ∃ (f c' : Addr) (tl : XK → Hp → VK → Prop), τ[j]? = some (some (.ref f)) ∧ G c' = some (CodeO c' q) ∧ ActOk X Ng x sg g cdg a q k f c' (wipe τ vs) tl ∧ TT tl G Q
theorem el_ask {TT : (XK → Hp → VK → Prop) → Hp → VK → Prop} {x a y q : Str} {g : Addr} {k j : Nat} {pg : Arguments} {bg : List Stmt} {sg : Scope} {dV kV doc pm cdv ct oc : Value} {an od : Option Addr} {osl : Array (Option Value)} {Ng : List Str} {p py pos : Pos} {vs : List Nat} {s0 : Shared} {H0 : Hp} {scope : Scope} {ce : Env} {fp : List Addr}
    (hg : Gl (X.blk s0 H0 scope ce fp) x) (hm : X.mg x = some (.ref g)) (hk : PySem.W.keepIn X.K (.ref g) = true)
    (lk : X.K.lookup g = some ⟨oc, od, .func (PySem.W.fnOf x x pg bg sg dV kV doc pm an cdv ct), osl⟩) (hcg : PySem.W.codeIn X.K cdv x = true) (hb : L2.Binds X.K (PySem.W.fnOf x x pg bg sg dV kV doc pm an cdv ct) [a] []) (Sg : FnScope Ng [a] sg)
    (hG : GivesTo X Ng x sg g cdv bg a q TT) (hr : Room (k + 2) X.A) (hy : X.N[j]? = some y) (hvy : Vis ce.scope y)
    (hdb : (x == ("__debug__" : Str)) = false := by decide) (hd : (y == ("__debug__" : Str)) = false := by decide) (hcd : (y == ("__classdict__" : Str)) = false := by decide) :
    ElemI X (X.blk s0 H0 scope ce fp) vs (.Call (.Name x p) [.Name y py] [] pos) (tAsk X Ng x sg g cdv a q k j vs TT) := by
  intro pins σw toX pi z τ G Q I ew h
  obtain ⟨f, c', tl, hs, hco, act, tt⟩ := h
  rw [ew] at act
  refine wpAny_Call_Name_kw (ld_glob I hg hm ?_ hdb)
  refine PySem.W.callWith_K (h₀ := X.base) I.ok.mod.kin hk ?_ (by rfl) (by rfl)
  show wpAny _ _ (spliced ((false, eval (.Name y py) ce) :: backTo pos (starEach [] ce))) _ _ z
  refine Calls.spliced_cons (thn ((pe_var (X := X.blk s0 H0 scope ce fp) (pos := py) (i := j) hy hvy hd hcd).run pi z τ G (fun v H1 => v = .ref f ∧ H1 = G) I ⟨.ref f, hs, rfl, rfl⟩) fun u s1 ⟨v, H1, I1, r1, ev, eH⟩ => ?_)
  subst ev
  rw [eH] at I1
  obtain rfl : u = Value.ref f := r1
  refine Calls.spliced_nil ⟨I1.kIn, ?_⟩
  have J := toX I1
  have rc : codeAny (model X.prog X.w) X.A (.call (.ref g) ⟨[.ref f], []⟩) (CR C8.CX0 X.stack X.prog X.w G s1 Q C8.E0) s1 := by
    refine run_ofS (N := Ng) (ps := [a]) (us := [.ref f]) (vs := [.ref f]) lk hcg Sg hr J.env0 (hb s1 [.ref f] I1.kIn rfl) (.cons rfl .nil) rfl fun hr' => ?_
    obtain ⟨t', ht', hq'⟩ := hG f c' s1 G Q tl (fun W pn xe E p1 p2 tk hW => act pins s1 G J hr' W pn xe E p1 p2 tk hW) hco tt
    exact ⟨t', ht'.nox, hq'⟩
  refine wpAny_call (codeAny_mono rc fun r s2 hq => ?_)
  cases r with
  | error e => exact (show False from hq).elim
  | ok fl =>
    cases fl with
    | ret u => exact I1.after hq
    | next => exact False.elim hq
    | brk => exact False.elim hq
    | cont => exact False.elim hq
/-- no default: nothing is bound -/
theorem bind0 {scope : Scope} {q : Str} {params : Arguments} {body : Expr} {cl : List (Str × Addr)} {c' : Addr} {HZ : Hp} (h : ∀ (pm cv ctv : Value), bindArgs (lfn q params body scope cl pm cv ctv .none) ⟨[], []⟩ = pure []) : BindV scope q params body cl c' .none HZ :=
  fun P w h0 hok pm ctv => ⟨[], (fun y m => by cases m), fun M A Q E z e qq => by rw [h]; exact wpAny_pure qq⟩
/-- a default: its name takes it -/
theorem bind1 {scope : Scope} {q y : Str} {params : Arguments} {body : Expr} {cl : List (Str × Addr)} {c' t : Addr} {HZ : Hp} {n : Int} (ht : HZ t = some (.tup [.int n])) (hy : scope.names.lookup y = some .local)
    (h : ∀ (pm cv ctv u : Value), ∃ k, bindArgs (lfn q params body scope cl pm cv ctv (.ref t)) ⟨[], []⟩ = seqItems? (.ref t) >>= k ∧ k (some #[u]) = pure [(y, u)]) : BindV scope q params body cl c' (.ref t) HZ := by
  intro P w h0 hok pm ctv
  obtain ⟨_, its, r, o, h1, h2, m, h3⟩ := (show ObjOk P w HZ h0 t (.tup [.int n]) from hok t _ ht)
  obtain ⟨u, eu, ru⟩ := vals1 r
  subst eu
  refine ⟨[(y, u)], fun z m => by rw [List.mem_singleton.mp m]; exact hy, fun M A Q E z e qq => ?_⟩
  obtain ⟨k, e1, e2⟩ := h pm (.ref c') ctv u
  rw [e1]
  refine wpAny_bind (wpAny_seqItems (by rw [e]; exact h1) h3 ?_)
  rw [e2]
  exact wpAny_pure qq
end
end LamV

/-! tables of code while a web changes; a dict comprehension over no keys; a def whose code object is known -/
namespace K
open PySem PySem.Spec PyProof.Rows L2 LamX SwD
def Plain (u : HO) : Prop := (∀ ps, u ≠ .tbl ps) ∧ ∀ φ, u ≠ .ext φ
theorem plain_dK (k) : Plain (.dK k) := ⟨(fun _ z => by cases z), (fun _ z => by cases z)⟩
theorem plain_dT (k) : Plain (.dT k) := ⟨(fun _ z => by cases z), (fun _ z => by cases z)⟩
theorem plain_lst (k) : Plain (.lst k) := ⟨(fun _ z => by cases z), (fun _ z => by cases z)⟩
theorem plain_ins (a b d) : Plain (.ins a b d) := ⟨(fun _ z => by cases z), (fun _ z => by cases z)⟩
theorem tabs_off {T : List (Addr × Str)} {H H' : Hp} {as : List Addr} (t : Tabs T H) (o : Off as H H') (h : ∀ y ∈ as, ∀ u, H y = some u → Plain u) : Tabs T H' := fun p hp => by
  obtain ⟨ps, h1, h2, h3⟩ := t p hp
  refine ⟨ps, o _ _ h1 (fun m => (h _ m _ h1).1 _ rfl), h2, fun pos cv hc => ?_⟩
  obtain ⟨c, e1, e2⟩ := h3 pos cv hc
  exact ⟨c, e1, o _ _ e2 (fun m => (h _ m _ e2).2 _ rfl)⟩
theorem tabs_put {T : List (Addr × Str)} {H : Hp} {x : Addr} {u o : HO} (t : Tabs T H) (hx : H x = some u) (hu : Plain u) : Tabs T (upd H x o) :=
  tabs_off t (as := [x]) (Off.put fun b v e _ => e) (fun y hy v hv => by rw [List.mem_singleton.mp hy, hx] at hv; rw [← Option.some.inj hv]; exact hu)
theorem setH_get {a : WebA} {i : Nat} {h g : HomeA} (hi : a.hs[i]? = some h) : (setH a i g).hs[i]? = some g := by
  show (a.hs.set i g)[i]? = some g
  rw [List.getElem?_set_self (List.getElem?_eq_some_iff.mp hi).1]
theorem setH_setH {a : WebA} {i : Nat} {g g' : HomeA} : setH (setH a i g) i g' = setH a i g' := by
  unfold setH
  simp only [List.set_set]
theorem relock {H : Hp} {n D : Addr} {u f x : HO} (hn : H n = some u) (ne : D ≠ n) : upd (upd (upd H n f) D x) n u = upd H D x := by
  funext y
  by_cases e : y = n
  · rw [e, upd_same, upd_ne (Ne.symm ne), hn]
  · rw [upd_ne e]
    by_cases e2 : y = D
    · rw [e2, upd_same, upd_same]
    · rw [upd_ne e2, upd_ne e2, upd_ne e]
theorem dc_keys0 {d : Addr} {o : Obj} {g : TG} {tt : TT} {tk tv : TE} {vs : List Nat} {σ : L2.St} {Ha : Hp} {D : Addr} {Z : Hp → Prop} (hd : upd Ha D (.dK []) d = some (.frz o (.dK []))) (out : Z (upd Ha D (.dK []))) :
    ∃ W : Nat → Nat → Hp → Prop, (∃ m, W 0 m (upd Ha D (.dK []))) ∧ ∀ i m H, W i m H →
      ((Itk d o []).stop i H ∧ Z H) ∨ ((Itk d o []).go i H ∧ ∃ Nx : Hp → Prop, (∀ H', Nx H' → ∃ m', m' < m ∧ W (i + 1) m' H') ∧ ∀ x H', (Itk d o []).yld i H x H' → g x (wipe σ vs) H' fun σ2 H2 => wipe σ2 vs = wipe σ vs ∧ tt σ2 H2 fun b H3 =>
        if b = true then tk σ2 H3 fun y H4 => tv σ2 H4 fun z H5 => ∃ kvs k, y = kV k ∧ H5 D = some (.dK kvs) ∧ kvs.length < sizeLine ∧ Nx (upd H5 D (.dK (putK kvs k z))) else Nx H3) :=
  ⟨fun _ _ H' => H' = upd Ha D (.dK []), ⟨0, rfl⟩, fun i m H' e => .inl (by subst e; exact ⟨⟨hd, Nat.zero_le _⟩, out⟩)⟩
/-- a def with its code object -/
structure FunC (K : PySem.W.Frag) (x qual : Str) (st : Stmt) (f : Addr) (fd : FuncData) (cd : Addr) : Prop where
  ex : ∃ (oc : Value) (od : Option Addr) (kV doc pm : Value) (an : Option Addr) (ct : Value) (osl : Array (Option Value)),
    fd = PySem.W.fnOf x qual (defArgs st) (defBody st) (defScope st) .none kV doc pm an (.ref cd) ct ∧ K.lookup f = some ⟨oc, od, .func fd, osl⟩ ∧ PySem.W.codeIn K (.ref cd) qual = true
theorem FunC.ok {P : Program} {w : World} {K : PySem.W.Frag} {mg : Str → Option Value} {base : Heap} {x qual : Str} {st : Stmt} {f cd : Addr} {fd : FuncData} {N ps : List Str} {k : Nat} {sp : Sp} (F : FunC K x qual st f fd cd) (S : FnScope N ps (defScope st)) (len : ∀ vs H Q E, sp vs H Q E → vs.length = ps.length)
    (hbody : ∀ (A : Around) (outer : List Env) (s : Shared) (H : Hp) (vs : List V) (Q : VK) (E : XK), Room k (A.deeper (envOfC qual (defScope st) s.heap.objs.size f (.ref cd))) → sp vs H Q E →
      ∃ t, PSs (cxOf CX0 P w K mg base N qual (defScope st) f (.ref cd) A outer s H E).nox (defBody st) t ∧ t { nx := fun _ H' => Q .non H', rt := Q } (start N vs) H) : FnOk P w K mg base CX0 (k + 1) f fd ps sp := by
  obtain ⟨oc, od, kV, doc, pm, an, ct, osl, rfl, lk, hcd⟩ := F.ex
  refine fn_of lk hcd S len fun A outer s H vs Q E hr hsp => ?_
  obtain ⟨t, h, q⟩ := hbody A outer s H vs Q E hr hsp
  exact ⟨t, h.nox, q⟩
end K

namespace K
open PySem PySem.Spec PyProof.Rows L2 LamX SwD
abbrev sLoseHouse : Stmt := top 47
abbrev qU : Str := "lose_house.<locals>.<lambda>"
def spLose (c : WebC) (T : List (Addr × Str)) : Sp := fun vs H Q _ => ∃ (a : WebA) (rs : List (Int × Int)) (bs : List Bond) (kb mv : List (List Key × V)) (ro : List Addr) (m i : Nat) (h : HomeA) (s : SlipA) (o : Int), vs = [.ref a.x, .ref h.x, .int o] ∧ Raw H c a rs bs kb mv ro m ∧ a.hs[i]? = some h ∧ a.ss[i]? = some s ∧ Tabs T H ∧
  ∀ (H' : Hp) (nw qu : Addr), OffN [h.x, s.td] H H' → Tabs T H' → (∀ y u, H y = some u → (∀ ps, u ≠ .tbl ps) → y ∉ [h.x, s.td] → y ∉ a.adr → y ∉ (setH a i { h with nw := nw, qu := qu }).adr) → Raw H' c (setH a i { h with nw := nw, qu := qu }) rs bs kb mv ro m → Q .non H'
section
variable {P : Program} {w : World} {K : PySem.W.Frag} {mg : Str → Option Value} {base : Heap}
theorem scLoseHouse : FnScope ["web", "home", "other", "key", "number"] ["web", "home", "other"] (defScope sLoseHouse) := ⟨rfl, rfl, rfl, by decide +kernel, rfl, by decide +kernel, by decide +kernel⟩
theorem ok_lose {f cU PU fW fH fS fA fB fC fD fG : Addr} {c : WebC} {fd fdA fdB fdC fdD fdG : FuncData} {k : Nat} {TL : List (Addr × Str)} (F : FunC K "lose_house" "lose_house" sLoseHouse f fd cU) (TB : TabB base mg cU PU) (hm : (PU, qU) ∈ TL) (hun : ∀ p ∈ TL, p.1 = PU → p.2 = qU) (dc : Apart c) (T : BT mg) (TC : ClsT K mg "Web" c.W fW webFs) (TH : ClsT K mg "House" c.H fH homeFs) (TS : ClsT K mg "Slip" c.S fS slipFs)
    (cA : Cal P w K mg base (k + 3) "lose_holder" fA fdA ["web", "home", "slip", "other"] (spLoseH c)) (cB : Cal P w K mg base (k + 3) "drop_tunnels" fB fdB ["web", "home", "is_gone"] (spDropT c)) (cC : Cal P w K mg base (k + 3) "drop_towards" fC fdC ["home", "ahead"] (spDropW c)) (cD : Cal P w K mg base (k + 3) "try_all" fD fdD ["web", "home"] (spTryA c)) (cG : Cal P w K mg base (k + 3) "go_on" fG fdG ["web", "home"] (spGoOn c)) :
    FnOk P w K mg base CX0 (k + 4) f fd ["web", "home", "other"] (spLose c TL) := by
  refine F.ok scLoseHouse (fun vs H Q E h => ?_) (fun A outer s H vs Q E hr h => ?_)
  · obtain ⟨a, rs, bs, kb, mv, ro, m, i, h, s, o, rfl, _⟩ := h
    rfl
  · obtain ⟨a, rs, bs, kb, mv, ro, m, i, h, z, o, rfl, R, hi, hz, hT, kk⟩ := h
    have hu := hu_of hr
    refine ⟨_, pss_cons (ps_fld (pv 1) (pe_lock (pe_dc (own := [("key", 3)]) (g := gNo) (tt := tNoT) rfl scLoseHouse.nd (by exact (pi_keys (pe_fld (pv 1) rfl))) (blkOk_by (own := [("key", 3)]) (N := ["web", "home", "other", "key", "number"]) (sc := defScope sLoseHouse) (by decide +kernel)) (fun _ _ _ _ _ => by exact pg_no) (fun _ _ _ _ _ => by exact pts_never) (fun _ _ _ _ _ => by exact pe_never) (fun _ _ _ _ _ => by exact pe_never))) rfl)
      (pss_cons (ps_for PassesOwn.never rfl (pi_list (pe_callB (call_sortedDA rfl) (by rfl) T.sorted (by decide +kernel) (pa_cons (pe_fld (pv 1) rfl) pa_nil))) (pg_name (i := 4) scLoseHouse.nd rfl (Or.inl rfl))
        (pss_one (ps_expr (pe_call cA.ok hr (by rfl) cA.g cA.kp cA.b .nil pass0 (pa_cons (pv 0) (pa_cons (pv 1) (pa_cons (pe_dget hu (pe_fld (pv 1) rfl) (pv 4) (fun _ _ => rfl)) (pa_cons (pv 2) pa_nil))))))))
      (pss_cons (ps_expr (pe_call cB.ok hr (by rfl) cB.g cB.kp cB.b .nil pass0 (pa_cons (pv 0) (pa_cons (pv 1) (pa_cons (LamV.pe_lam0 (T := TL) (q := qU) TB rfl rfl hm hun rfl (LamV.lamN_by (N := ["web", "home", "other", "key", "number"]) (sc := defScope sLoseHouse) (by decide +kernel)).free ⟨_, _, rfl⟩) pa_nil)))))
      (pss_cons (ps_expr (pe_call cC.ok hr (by rfl) cC.g cC.kp cC.b .nil pass0 (pa_cons (pv 1) (pa_cons (pv 2) pa_nil))))
      (pss_cons (ps_expr (pe_call cD.ok hr (by rfl) cD.g cD.kp cD.b .nil pass0 (pa_cons (pv 0) (pa_cons (pv 1) pa_nil))))
      (pss_one (ps_expr (pe_call cG.ok hr (by rfl) cG.g cG.kp cG.b .nil pass0 (pa_cons (pv 0) (pa_cons (pv 1) pa_nil))))))))), ?_⟩
    have il : i < rs.length := by have := (List.getElem?_eq_some_iff.mp hi).1; have := R.st.lh; omega
    obtain ⟨rr, er⟩ : ∃ rr, rs[i]? = some rr := ⟨_, List.getElem?_eq_getElem il⟩
    have mz := List.mem_of_getElem? hz
    have q0 := (R.st.home i h rr z hi er hz).2
    have nxn : h.x ≠ h.nw := fun e => by have := q0.me; rw [e, q0.nw] at this; cases this
    -- the news
    refine ⟨h.nw, .dK [], q0.nw, True.intro, fun od => ?_⟩
    refine ⟨_, rfl, h.x, c.H, h.dx, _, .ref h.nw, rfl, (by rw [upd_ne nxn]; exact q0.me), TH.cl, TH.na _ (by decide), rfl, h.nw, od, rfl, .inl ⟨[], upd_same, fun D nD => ?_⟩⟩
    have nDn : D ≠ h.nw := fun e => by rw [e, upd_same] at nD; cases nD
    have nD0 : H D = none := by rw [upd_ne nDn] at nD; exact nD
    have fz : upd (upd H h.nw (.frz od (.dK []))) D (.dK []) h.nw = some (.frz od (.dK [])) := by rw [upd_ne (Ne.symm nDn)]; exact upd_same
    refine dc_keys0 fz ⟨fz, ?_⟩
    rw [relock q0.nw nDn]
    have s1 := same_upd (o := .dK []) nD0
    have R1 := R.same s1
    have hD := upd_same (H := H) (a := D) (o := .dK [])
    have hT1 : Tabs TL (upd H D (.dK [])) := hT.ext s1
    generalize upd H D (.dK []) = H1 at *
    have q1 := q0.same s1
    refine ⟨_, rfl, h.x, c.H, h.dx, _, rfl, q1.me, TH.cl, TH.na _ (by decide), (by show 8 < 1000; decide), ?_⟩
    have hqu : ∀ r ∈ ro, r ≠ h.qu := fun r mr e => R.nr r mr (by rw [e]; exact mem_home (List.mem_of_getElem? hi) _ (by simp [HomeA.adr]))
    have R2 := R1.setH (i := i) (h := h) (nw := D) (qu := h.qu) dc hi hD q1.qu (fun s ms e => by
      obtain ⟨ks, h1, _⟩ := R.st.told s ms
      rw [e, nD0] at h1; cases h1) hqu
    have hT2 := tabs_put (o := .ins c.H h.dx (homeF (i : Nat) h.nu h.sg h.wt h.st D h.qu)) hT1 q1.me (plain_ins _ _ _)
    have o2 : OffN [h.x, z.td] H (upd H1 h.x (.ins c.H h.dx (homeF (i : Nat) h.nu h.sg h.wt h.st D h.qu))) := OffN.put (OffN.same s1) (by simp)
    have hi2 : (setH a i { h with nw := D, qu := h.qu }).hs[i]? = some { h with nw := D, qu := h.qu } := setH_get hi
    generalize hb : setH a i { h with nw := D, qu := h.qu } = b at *
    have ebx : b.x = a.x := by rw [← hb]; rfl
    have ebs : b.ss = a.ss := by rw [← hb]; rfl
    have hz2 : b.ss[i]? = some z := by rw [ebs]; exact hz
    have mz2 : z ∈ b.ss := by rw [ebs]; exact mz
    show tSeq _ _ _ _ (upd H1 h.x (.ins c.H h.dx (homeF (i : Nat) h.nu h.sg h.wt h.st D h.qu)))
    generalize upd H1 h.x (.ins c.H h.dx (homeF (i : Nat) h.nu h.sg h.wt h.st D h.qu)) = H2 at *
    -- the holders
    have q2 := (R2.st.home i _ rr z hi2 er hz2).2
    refine ⟨_, rfl, h.x, c.H, h.dx, _, _, rfl, q2.me, TH.cl, TH.na _ (by decide), rfl, h.st, _, [rr.1], rfl, Rd.of q2.st, rfl, (by show 1 ≤ sizeLine; decide), fun ys l hp _ nl => ?_⟩
    have e0 : ys = [rr.1] := List.perm_singleton.mp hp
    subst e0
    have s3 := same_upd (o := .lst ([rr.1].map V.int)) nl
    have R3 := R2.same s3
    have hT3 := hT2.ext s3
    have hl3 := upd_same (H := H2) (a := l) (o := .lst ([rr.1].map V.int))
    have o3 : OffN [h.x, z.td] H (upd H2 l (.lst ([rr.1].map V.int))) := o2.then (OffN.same s3)
    have htd2 := R2.st.told z mz2
    generalize upd H2 l (.lst ([rr.1].map V.int)) = H3 at *
    refine ⟨l, rfl, ⟨_, SqL.of hl3⟩, ?_⟩
    refine for_list (K := K) (a := l) (xs := [.int rr.1]) (fun j σ H' => (∃ y3 y4, σ = [some (.ref a.x), some (.ref h.x), some (.int o), y3, y4]) ∧ Raw H' c b rs bs kb mv ro m ∧ Tabs TL H' ∧ OffN [h.x, z.td] H H' ∧ H' l = some (.lst [.int rr.1])) ⟨⟨_, _, rfl⟩, R3, hT3, o3, hl3⟩ (fun j σ H' _ e => SqL.of e.2.2.2.2) ?_ ?_
    · rintro j y σ H4 hy ⟨⟨y3, y4, rfl⟩, R4, hT4, o4, hl4⟩
      match j, hy with
      | 0, hy =>
        cases hy
        have q4 := (R4.st.home i _ rr z hi2 er hz2).2
        obtain ⟨ks, hk1, hk2⟩ := R4.st.told z mz2
        refine ⟨_, rfl, _, rfl, _, rfl, h.x, c.H, h.dx, _, _, rfl, q4.me, TH.cl, TH.na _ (by decide), rfl, _, rfl, h.st, .ref z.sl, rfl, .inl ⟨_, .inl rr.1, .inl q4.st, rfl, (by unfold valV; simp)⟩, _, rfl, ?_⟩
        refine ⟨.ref a.x, .ref h.x, z.sl, z.dsl, z.td, rr.1, _, o, .ref z.wh, .ref z.pa, ks, rfl, q4.sl, hk1, ⟨⟨_, _, rfl⟩, R4, hT4, o4, hl4⟩, ⟨_, _, rfl⟩, R4.hold mz2 (Nat.le_trans (dropK_le ks _) hk2), tabs_put hT4 hk1 (plain_dK _), OffN.put o4 (by simp), ?_⟩
        rw [upd_ne (fun e => by rw [e, hk1] at hl4; cases hl4)]
        exact hl4
      | j + 1, hy => simp at hy
    · rintro σ H4 ⟨⟨y3, y4, rfl⟩, R4, hT4, o4, _⟩
      -- the tunnels
      refine ⟨_, rfl, _, rfl, hT4, fun lf lc H5 x5 hT5 nlf hlc => ?_⟩
      generalize LamV.LamO lf qU _ _ _ _ lc .none = LO
      have R5 := (R4.ext x5).same (same_upd (o := LO) nlf)
      have hT6 := hT5.ext (same_upd (o := LO) nlf)
      have o6 := (o4.then (OffN.ext x5)).then (OffN.same (same_upd (o := LO) nlf))
      generalize upd H5 lf LO = H6 at *
      have q6 := (R5.st.home i _ rr z hi2 er hz2).2
      have hnw6 : ∀ s ∈ b.ss, s.td ≠ D := fun s ms e => R5.st.ntd s ms (by rw [e]; exact mem_home (List.mem_of_getElem? hi2) _ (by simp [HomeA.adr]))
      refine ⟨a.x, b.dx, b.hl, b.b, b.ml, b.bo, h.x, h.dx, h.nu, h.sg, h.wt, h.st, D, h.qu, _, (i : Nat), .ref lf, rfl, (by rw [← ebx]; exact R5.st.me), R5.st.bo, q6.me, q6.qu, fun H7 p7 s7 np7 hp7 => ?_⟩
      have q7 := q6.same s7
      have R7 := (R5.same s7).setH (i := i) (h := { h with nw := D, qu := h.qu }) (nw := D) (qu := p7) dc hi2 q7.nw hp7 hnw6 (fun r mr e => by
        obtain ⟨xs, h1, _⟩ := R5.rows r mr
        rw [e, np7] at h1; cases h1)
      have hT7 := tabs_put (o := .ins c.H h.dx (homeF (i : Nat) h.nu h.sg h.wt h.st D p7)) (hT6.ext s7) q7.me (plain_ins _ _ _)
      have o7 : OffN [h.x, z.td] H (upd H7 h.x (.ins c.H h.dx (homeF (i : Nat) h.nu h.sg h.wt h.st D p7))) := OffN.put (o6.then (OffN.same s7)) (by simp)
      have eb7 : setH b i { h with nw := D, qu := p7 } = setH a i { h with nw := D, qu := p7 } := by rw [← hb]; exact setH_setH
      have R7' : Raw (upd H7 h.x (.ins c.H h.dx (homeF (i : Nat) h.nu h.sg h.wt h.st D p7))) c (setH a i { h with nw := D, qu := p7 }) rs bs kb mv ro m := by rw [← eb7]; exact R7
      clear R7
      generalize upd H7 h.x (.ins c.H h.dx (homeF (i : Nat) h.nu h.sg h.wt h.st D p7)) = H8 at *
      have hi8 : (setH a i { h with nw := D, qu := p7 }).hs[i]? = some { h with nw := D, qu := p7 } := setH_get hi
      generalize hd : setH a i { h with nw := D, qu := p7 } = d at *
      have eds : d.ss = a.ss := by rw [← hd]; rfl
      have hz8 : d.ss[i]? = some z := by rw [eds]; exact hz
      -- those towards it
      have q8 := (R7'.st.home i _ rr z hi8 er hz8).2
      have hnw8 : ∀ s ∈ d.ss, s.td ≠ D := fun s ms e => R7'.st.ntd s ms (by rw [e]; exact mem_home (List.mem_of_getElem? hi8) _ (by simp [HomeA.adr]))
      refine ⟨_, rfl, _, rfl, h.x, h.dx, h.nu, h.sg, h.wt, h.st, D, p7, (i : Nat), o, rfl, q8.me, q8.qu, fun H9 p9 s9 np9 hp9 => ?_⟩
      have q9 := q8.same s9
      have R9 := (R7'.same s9).setH (i := i) (h := { h with nw := D, qu := p7 }) (nw := D) (qu := p9) dc hi8 q9.nw hp9 hnw8 (fun r mr e => by
        obtain ⟨xs, h1, _⟩ := R7'.rows r mr
        rw [e, np9] at h1; cases h1)
      have hT9 := tabs_put (o := .ins c.H h.dx (homeF (i : Nat) h.nu h.sg h.wt h.st D p9)) (hT7.ext s9) q9.me (plain_ins _ _ _)
      have o9 : OffN [h.x, z.td] H (upd H9 h.x (.ins c.H h.dx (homeF (i : Nat) h.nu h.sg h.wt h.st D p9))) := OffN.put (o7.then (OffN.same s9)) (by simp)
      have eb9 : setH d i { h with nw := D, qu := p9 } = setH a i { h with nw := D, qu := p9 } := by rw [← hd]; exact setH_setH
      have R9' : Raw (upd H9 h.x (.ins c.H h.dx (homeF (i : Nat) h.nu h.sg h.wt h.st D p9))) c (setH a i { h with nw := D, qu := p9 }) rs bs kb mv ro m := by rw [← eb9]; exact R9
      clear R9
      generalize upd H9 h.x (.ins c.H h.dx (homeF (i : Nat) h.nu h.sg h.wt h.st D p9)) = H10 at *
      have hi10 : (setH a i { h with nw := D, qu := p9 }).hs[i]? = some { h with nw := D, qu := p9 } := setH_get hi
      have hz10 : (setH a i { h with nw := D, qu := p9 }).ss[i]? = some z := hz
      have q10 := (R9'.st.home i _ rr z hi10 er hz10).2
      refine ⟨_, rfl, _, rfl, .ref a.x, { h with nw := D, qu := p9 }, z, i, rs.length, rr.1, rr.2, rfl, q10, R9'.st.n8, fun H11 s11 => ?_⟩
      have q11 := q10.same s11
      exact ⟨_, rfl, _, rfl, .ref a.x, h.x, h.dx, h.nu, h.sg, h.wt, h.st, D, p9, (i : Nat), rfl, q11.me, kk H11 D p9 (o9.then (OffN.same s11)) (hT9.ext s11) (fun y u e n1 n2 n3 z => by
        rcases setH_adr hi z with z | z | z
        · exact n3 z
        · rw [z, nD0] at e; cases e
        · have := o7 _ _ e n1 n2
          rw [z, np9] at this; cases this) (R9'.same s11)⟩
end
end K


/-! what a deed on ties may write; keys taken away -/
namespace K
open PySem PySem.Spec PyProof.Rows L2 LamX SwD
def mutW (a : WebA) (ro : List Addr) : List Addr := a.hs.map (·.x) ++ TW.mut a ro
theorem mutW_setH {a : WebA} {ro : List Addr} {i : Nat} {h : HomeA} {nw qu : Addr} (hi : a.hs[i]? = some h) : mutW (setH a i { h with nw := nw, qu := qu }) ro = mutW a ro := by
  show (a.hs.set i { h with nw := nw, qu := qu }).map (·.x) ++ TW.mut a ro = _
  rw [map_set_same (f := fun h : HomeA => h.x) (y := { h with nw := nw, qu := qu }) hi rfl]
  rfl
theorem mem_mut {a : WebA} {ro : List Addr} {y : Addr} (h : y ∈ TW.mut a ro) : y ∈ mutW a ro := List.mem_append_right _ h
theorem mut_b (a : WebA) (ro : List Addr) : a.b ∈ mutW a ro := mem_mut (by simp [TW.mut])
theorem mut_ml (a : WebA) (ro : List Addr) : a.ml ∈ mutW a ro := mem_mut (by simp [TW.mut])
theorem mut_x {a : WebA} {h : HomeA} (m : h ∈ a.hs) (ro : List Addr) : h.x ∈ mutW a ro := List.mem_append_left _ (List.mem_map.mpr ⟨h, m, rfl⟩)
theorem mut_td {a : WebA} {s : SlipA} (m : s ∈ a.ss) (ro : List Addr) : s.td ∈ mutW a ro := mem_mut (List.mem_append_right _ (List.mem_map.mpr ⟨s, m, rfl⟩))
theorem valV_drop {κ : Type} [DecidableEq κ] (k j : κ) : ∀ kvs : List (κ × V), valV (dropK kvs k) j = if j = k then none else valV kvs j
  | [] => by unfold dropK; simp [valV]
  | p :: r => by
    have ih := valV_drop k j r
    unfold dropK at ih ⊢
    by_cases e : p.1 = k
    · rw [List.filter_cons_of_neg (by simp [e]), ih]
      by_cases ej : j = k
      · rw [if_pos ej, if_pos ej]
      · rw [if_neg ej, if_neg ej, valV_neg (fun z => ej (by rw [← z, e]))]
    · rw [List.filter_cons_of_pos (by simp [e])]
      by_cases ej : p.1 = j
      · rw [valV_pos ej, valV_pos ej, if_neg (fun z => e (by rw [ej, z]))]
      · rw [valV_neg ej, valV_neg ej, ih]
theorem drop_mem {κ : Type} [DecidableEq κ] {kvs : List (κ × V)} {k : κ} {e : κ × V} (h : e ∈ dropK kvs k) : e ∈ kvs := (List.mem_filter.mp h).1
theorem delB_keys {bs : List Bond} {k k' : Int × Int} : k' ∈ (delB bs k).map (·.1) ↔ k' ∈ bs.map (·.1) ∧ k' ≠ k := by
  unfold delB
  constructor
  · intro h
    obtain ⟨e, me, rfl⟩ := List.mem_map.mp h
    obtain ⟨m1, m2⟩ := List.mem_filter.mp me
    exact ⟨List.mem_map.mpr ⟨e, m1, rfl⟩, of_decide_eq_true m2⟩
  · rintro ⟨h, n⟩
    obtain ⟨e, me, rfl⟩ := List.mem_map.mp h
    exact List.mem_map.mpr ⟨e, List.mem_filter.mpr ⟨me, decide_eq_true n⟩, rfl⟩
theorem delB_nd {bs : List Bond} {k : Int × Int} (h : (bs.map (·.1)).Nodup) : ((delB bs k).map (·.1)).Nodup := by
  unfold delB
  exact (List.filter_sublist.map _).nodup h
theorem TW.plain {H : Hp} {c : WebC} {a : WebA} {rs : List (Int × Int)} {bs : List Bond} {ro : List Addr} {m : Nat} (t : TW H c a rs bs ro m) : ∀ y ∈ mutW a ro, ∃ u, H y = some u ∧ Plain u ∧ (∀ xs, u ≠ .tup xs) := fun y hy => by
  simp only [mutW, TW.mut, List.mem_append, List.mem_cons, List.not_mem_nil, or_false, List.mem_map] at hy
  rcases hy with ⟨h, mh, rfl⟩ | ((rfl | rfl) | hr) | ⟨s, ms, rfl⟩
  · obtain ⟨i, hi⟩ := List.mem_iff_getElem?.mp mh
    have il : i < rs.length := by have := (List.getElem?_eq_some_iff.mp hi).1; have := t.st.lh; omega
    have is : i < a.ss.length := by have := t.st.ls; omega
    exact ⟨_, (t.st.home i h _ _ hi (List.getElem?_eq_getElem il) (List.getElem?_eq_getElem is)).2.me, plain_ins _ _ _, (fun xs z => by cases z)⟩
  · obtain ⟨kvs, h, _⟩ := t.b
    exact ⟨_, h, plain_dT _, (fun xs z => by cases z)⟩
  · obtain ⟨kvs, h, _⟩ := t.ml
    exact ⟨_, h, plain_dT _, (fun xs z => by cases z)⟩
  · obtain ⟨ls, h, _⟩ := t.rows y hr
    exact ⟨_, h, plain_lst _, (fun xs z => by cases z)⟩
  · obtain ⟨kvs, h, _⟩ := t.st.told s ms
    exact ⟨_, h, plain_dK _, (fun xs z => by cases z)⟩
theorem TW.tabs {T : List (Addr × Str)} {H H' : Hp} {c : WebC} {a : WebA} {rs : List (Int × Int)} {bs : List Bond} {ro : List Addr} {m : Nat} (t : TW H c a rs bs ro m) (hT : Tabs T H) (o : Off (mutW a ro) H H') : Tabs T H' :=
  tabs_off hT o (fun y hy u hu => by obtain ⟨v, hv, p, _⟩ := t.plain y hy; rw [hu] at hv; rw [Option.some.inj hv]; exact p)
end K

namespace K
open PySem PySem.Spec PyProof.Rows L2 LamX SwD
abbrev sW_tunnels : Stmt := inClass (top 62) 31
abbrev sW_cut : Stmt := inClass (top 62) 8
def spTunnels0 (c : WebC) : Sp := fun vs H Q _ => ∃ (x dx hl b ml bo : Addr) (e : Int), vs = [.ref x] ∧ H x = some (.ins c.W dx (webF hl b ml bo e)) ∧ H bo = some (.dK []) ∧ ∀ H' l, Same H H' → H' l = some (.lst []) → Q (.ref l) H'
def spCut (c : WebC) (CH CT : Addr) (T : List (Addr × Str)) : Sp := fun vs H Q E => ∃ (a : WebA) (rs : List (Int × Int)) (bs : List Bond) (ro : List Addr) (m : Nat) (i j : Int), vs = [.ref a.x, .int i, .int j] ∧ TieR c CH CT H a rs bs ro m i j E ∧ Tabs T H ∧
  ∀ v, bget bs (srt i j) = some v → ∀ (H' : Hp) (a' : WebA), a'.x = a.x → mutW a' ro = mutW a ro → OffN (mutW a ro) H H' → Tabs T H' → (∀ y u, H y = some u → (∀ ps, u ≠ .tbl ps) → y ∉ mutW a ro → y ∉ a.adr → y ∉ a'.adr) → TW H' c a' rs (delB bs (srt i j)) ro m → Q .non H'
section
variable {P : Program} {w : World} {K : PySem.W.Frag} {mg : Str → Option Value} {base : Heap}
theorem scW_tunnels : FnScope ["self", "bores", "number"] ["self"] (defScope sW_tunnels) := ⟨rfl, rfl, rfl, by decide +kernel, rfl, by decide +kernel, by decide +kernel⟩
theorem ok_tunnels0 {f fW : Addr} {c : WebC} {fd : FuncData} {k : Nat} (F : Fun K "tunnels" "Web.tunnels" sW_tunnels f fd) (T : BT mg) (TC : ClsT K mg "Web" c.W fW webFs) : FnOk P w K mg base CX0 (k + 1) f fd ["self"] (spTunnels0 c) := by
  refine F.ok scW_tunnels (fun vs H Q E h => ?_) (fun cdv A outer s H vs Q E hr h => ?_)
  · obtain ⟨x, dx, hl, b, ml, bo, e, rfl, _⟩ := h
    rfl
  · obtain ⟨x, dx, hl, b, ml, bo, e, rfl, h1, h2, q⟩ := h
    refine ⟨_, pss_cons (ps_set (i := 1) scW_tunnels.nd rfl (.inr rfl) (pe_fld (pv 0) rfl)) (pss_one (ps_ret (pe_lc (own := [("number", 2)]) (g := gName 2) (tt := tNoT) rfl scW_tunnels.nd (by exact (pi_list (pe_callB (call_sortedDA rfl) (by rfl) T.sorted (by decide +kernel) (pa_cons (pv 1) pa_nil)))) (blkOk_by (own := [("number", 2)]) (N := ["self", "bores", "number"]) (sc := defScope sW_tunnels) (by decide +kernel)) (fun _ _ _ _ _ => by exact (pg_name (i := 2) scW_tunnels.nd rfl (Or.inl rfl))) (fun _ _ _ _ _ => by exact pts_never) (fun _ _ _ _ _ => by exact pe_never)))), ?_⟩
    refine ⟨_, rfl, x, c.W, dx, _, _, rfl, h1, TC.cl, TC.na _ (by decide), rfl, ?_⟩
    refine ⟨_, rfl, bo, [], [], rfl, Rd.of h2, rfl, (by decide), fun ys l hp _ nl => ?_⟩
    have e0 : ys = [] := List.perm_nil.mp hp
    subst e0
    have s1 := same_upd (o := .lst []) nl
    refine ⟨l, rfl, ⟨_, SqL.of upd_same⟩, fun D nD => ?_⟩
    have s2 := same_upd (o := .lst []) nD
    refine lc_nil (K := K) (SqL.of (s2 _ _ upd_same)) ?_
    exact q _ D (s1.trans s2) upd_same
theorem scCut : FnScope ["self", "one", "other", "low", "high", "number", "path", "lead"] ["self", "one", "other"] (defScope sW_cut) := ⟨rfl, rfl, rfl, by decide +kernel, rfl, by decide +kernel, by decide +kernel⟩
theorem ok_cut {f fW fC CH CT fP fT fL : Addr} {c : WebC} {fd fdC fdP fdT fdL : FuncData} {k : Nat} {TL : List (Addr × Str)} (F : Fun K "cut" "Web.cut" sW_cut f fd) (TC : ClsT K mg "Web" c.W fW webFs) (mC : Meth K c.W "check_tie" fC) (GC : FnOk P w K mg base (L2.CX P w) (k + 4) fC fdC ["self", "one", "other"] (spCheckT c CH CT)) (bC : Binds K fdC ["self", "one", "other"] [])
    (cP : Cal P w K mg base (k + 4) "sorted_pair" fP fdP ["one", "other"] spPair2) (mT : Meth K c.W "tunnels" fT) (GT : FnOk P w K mg base CX0 (k + 4) fT fdT ["self"] (spTunnels0 c)) (bT : Binds K fdT ["self"] []) (cL : Cal P w K mg base (k + 4) "lose_house" fL fdL ["web", "home", "other"] (spLose c TL)) : FnOk P w K mg base (L2.CX P w) (k + 5) f fd ["self", "one", "other"] (spCut c CH CT TL) := by
  refine F.okX scCut (fun vs H Q E h => ?_) (fun cdv A outer s H vs Q E hr h => ?_)
  · obtain ⟨a, rs, bs, ro, m, i, j, rfl, _⟩ := h
    rfl
  · obtain ⟨a, rs, bs, ro, m, i, j, rfl, R, hT, kk⟩ := h
    have hu := hu_of hr
    refine ⟨_, pss_cons (ps_expr (pe_meth (pv 0) TC.cl mC GC hr bC .nil (passes_call (takes_of rfl rfl rfl rfl) (fun _ _ _ _ h => h)) (pa_cons (pv 1) (pa_cons (pv 2) pa_nil))))
      (pss_cons (ps_asg (pe_call cP.ok hr (by rfl) cP.g cP.kp cP.b .nil pass0 (pa_cons (pv 1) (pa_cons (pv 2) pa_nil))) (pg_tup rfl (pgs_cons (pg_name (i := 3) scCut.nd rfl (Or.inl rfl)) (pgs_cons (pg_name (i := 4) scCut.nd rfl (Or.inl rfl)) pgs_nil))))
      (pss_cons (ps_for (passes_of rfl) rfl (pi_list (pe_meth0 (pv 0) TC.cl mT GT hr bT .nil pass0)) pg_no pss_no)
      (pss_cons (ps_ddelT hu (pe_fld (pv 0) rfl) (pe_tup (pa_cons (pv 3) (pa_cons (pv 4) pa_nil))))
      (pss_cons (ps_ddelT hu (pe_fld (pv 0) rfl) (pe_tup (pa_cons (pv 3) (pa_cons (pv 4) pa_nil))))
      (pss_cons (ps_ddelT hu (pe_fld (pv 0) rfl) (pe_tup (pa_cons (pv 4) (pa_cons (pv 3) pa_nil))))
      (pss_cons (ps_expr (pe_call cL.ok hr (by rfl) cL.g cL.kp cL.b .nil pass0 (pa_cons (pv 0) (pa_cons (pe_ix (r := rIxL K) ix_list (pe_fld (pv 0) rfl) (pv 3) (fun _ _ => rfl)) (pa_cons (pv 4) pa_nil)))))
      (pss_one (ps_expr (pe_call cL.ok hr (by rfl) cL.g cL.kp cL.b .nil pass0 (pa_cons (pv 0) (pa_cons (pe_ix (r := rIxL K) ix_list (pe_fld (pv 0) rfl) (pv 4) (fun _ _ => rfl)) (pa_cons (pv 3) pa_nil)))))))))))), ?_⟩
    refine ⟨_, rfl, a.x, a.dx, _, rfl, R.web.st.me, rfl, _, rfl, _, rfl, a, rs, bs, ro, m, i, j, rfl, R.web, R.li, R.lj, R.first, R.tieN, fun hk H1 s1 => ?_⟩
    obtain ⟨v, hv⟩ := R.tieS hk
    have W1 := R.web.same s1
    have so : 0 ≤ (srt i j).1 ∧ (srt i j).1 < (srt i j).2 ∧ (srt i j).2 < (rs.length : Int) := by
      obtain ⟨e, me, ee⟩ := List.mem_map.mp (bget_some.mp ⟨v, hv⟩)
      have := R.web.ok e me
      rw [ee] at this
      exact this
    obtain ⟨lo, up, hsr⟩ : ∃ lo up : Nat, srt i j = ((lo : Int), (up : Int)) := by
      obtain ⟨lo, e1⟩ := Int.eq_ofNat_of_zero_le so.1
      obtain ⟨up, e2⟩ := Int.eq_ofNat_of_zero_le (show 0 ≤ (srt i j).2 by omega)
      exact ⟨lo, up, Prod.ext e1 e2⟩
    have e1 : (if j < i then j else i) = (lo : Int) := congrArg Prod.fst hsr
    have e2 : (if j > i then j else i) = (up : Int) := congrArg Prod.snd hsr
    have kf := kk v hv
    rw [hsr] at so hv kf
    have lu : lo < up := by have := so.2.1; simp only [] at this; omega
    have un : up < rs.length := by have := so.2.2; simp only [] at this; omega
    refine ⟨_, rfl, _, rfl, i, j, rfl, fun t nt => ?_⟩
    have s2 := same_upd (o := .tup [.int (lo : Int), .int (up : Int)]) nt
    have ht := upd_same (H := H1) (a := t) (o := .tup [.int (lo : Int), .int (up : Int)])
    have W2 := W1.same s2
    show ∃ _, _
    generalize hH2 : upd H1 t (.tup [.int (lo : Int), .int (up : Int)]) = H2 at *
    have hH2' : upd H1 t (.tup [.int (if j < i then j else i), .int (if j > i then j else i)]) = H2 := by rw [e1, e2]; exact hH2
    rw [hH2']
    refine ⟨t, _, rfl, SqT.of ht, rfl, _, _, rfl, _, _, rfl, rfl, ?_⟩
    refine ⟨_, rfl, a.x, a.dx, _, rfl, W2.st.me, rfl, a.x, a.dx, a.hl, a.b, a.ml, a.bo, _, rfl, W2.st.me, W2.st.bo, fun H3 l s3 hl => ?_⟩
    have W3 := W2.same s3
    refine ⟨l, rfl, ⟨_, SqL.of hl⟩, for_list (K := K) (a := l) (xs := []) (fun g σ H' => σ = [some (.ref a.x), some (.int i), some (.int j), some (.int (lo : Int)), some (.int (up : Int)), none, none, none] ∧ H' = H3) ⟨rfl, rfl⟩ (fun g σ H' _ e => by rw [e.2]; exact SqL.of hl) (fun g y σ H' hy => by simp at hy) ?_⟩
    rintro σ H' ⟨rfl, rfl⟩
    obtain ⟨kb, mv, R3, hml, hmk, hmr⟩ := W3.raw
    have hT3 : Tabs TL H' := hT.ext (s1.trans (s2.trans s3))
    have o3 : OffN (mutW a ro) H H' := OffN.same (s1.trans (s2.trans s3))
    obtain ⟨tv, hv1, _⟩ := (bond_get (k := ((lo : Int), (up : Int))) R3.p).2 v hv
    have hin : ((lo : Int), (up : Int)) ∈ bs.map (·.1) := bget_some.mp ⟨v, hv⟩
    -- the tie goes
    refine ⟨_, rfl, a.x, c.W, a.dx, _, .ref a.b, rfl, R3.st.me, TC.cl, TC.na _ (by decide), rfl, _, rfl, _, rfl, (by show 2 ≤ sizeLine; decide), fun t4 nt4 => ?_⟩
    have s4 := same_upd (o := .tup [.int (lo : Int), .int (up : Int)]) nt4
    have ht4 := upd_same (H := H') (a := t4) (o := .tup [.int (lo : Int), .int (up : Int)])
    have R4 := R3.same s4
    have hT4 := hT3.ext s4
    have o4 := o3.then (OffN.same s4)
    generalize upd H' t4 (.tup [.int (lo : Int), .int (up : Int)]) = H4 at *
    refine ⟨a.b, kb, kp ((lo : Int), (up : Int)), t4, _, rfl, R4.b, rfl, ht4, hv1, ?_⟩
    have R5 := R4.putB (bond_del (k := ((lo : Int), (up : Int))) R4.p)
    have hT5 := tabs_put (o := .dT (dropK kb (kp ((lo : Int), (up : Int))))) hT4 R4.b (plain_dT _)
    have o5 : OffN (mutW a ro) H (upd H4 a.b (.dT (dropK kb (kp ((lo : Int), (up : Int)))))) := OffN.put o4 (mut_b a ro)
    generalize upd H4 a.b (.dT (dropK kb (kp ((lo : Int), (up : Int))))) = H5 at *
    -- the boxes go
    obtain ⟨w1, hw1⟩ := (hmk ((lo : Int), (up : Int))).mpr (.inl hin)
    obtain ⟨w2, hw2⟩ := (hmk ((up : Int), (lo : Int))).mpr (.inr hin)
    have nlu : ((lo : Int), (up : Int)) ≠ ((up : Int), (lo : Int)) := fun z => by have := congrArg Prod.fst z; simp only [] at this; omega
    refine ⟨_, rfl, a.x, c.W, a.dx, _, .ref a.ml, rfl, R5.st.me, TC.cl, TC.na _ (by decide), rfl, _, rfl, _, rfl, (by show 2 ≤ sizeLine; decide), fun t6 nt6 => ?_⟩
    have s6 := same_upd (o := .tup [.int (lo : Int), .int (up : Int)]) nt6
    have ht6 := upd_same (H := H5) (a := t6) (o := .tup [.int (lo : Int), .int (up : Int)])
    have R6 := R5.same s6
    have hT6 := hT5.ext s6
    have o6 := o5.then (OffN.same s6)
    generalize upd H5 t6 (.tup [.int (lo : Int), .int (up : Int)]) = H6 at *
    refine ⟨a.ml, mv, kp ((lo : Int), (up : Int)), t6, w1, rfl, R6.ml, rfl, ht6, hw1, ?_⟩
    have R7 := R6.putM (mv' := dropK mv (kp ((lo : Int), (up : Int))))
    have hT7 := tabs_put (o := .dT (dropK mv (kp ((lo : Int), (up : Int))))) hT6 R6.ml (plain_dT _)
    have o7 : OffN (mutW a ro) H (upd H6 a.ml (.dT (dropK mv (kp ((lo : Int), (up : Int)))))) := OffN.put o6 (mut_ml a ro)
    generalize upd H6 a.ml (.dT (dropK mv (kp ((lo : Int), (up : Int))))) = H7 at *
    refine ⟨_, rfl, a.x, c.W, a.dx, _, .ref a.ml, rfl, R7.st.me, TC.cl, TC.na _ (by decide), rfl, _, rfl, _, rfl, (by show 2 ≤ sizeLine; decide), fun t8 nt8 => ?_⟩
    have s8 := same_upd (o := .tup [.int (up : Int), .int (lo : Int)]) nt8
    have ht8 := upd_same (H := H7) (a := t8) (o := .tup [.int (up : Int), .int (lo : Int)])
    have R8 := R7.same s8
    have hT8 := hT7.ext s8
    have o8 := o7.then (OffN.same s8)
    generalize upd H7 t8 (.tup [.int (up : Int), .int (lo : Int)]) = H8 at *
    refine ⟨a.ml, _, kp ((up : Int), (lo : Int)), t8, w2, rfl, R8.ml, rfl, ht8, (by rw [valV_drop, if_neg (kp_ne (Ne.symm nlu))]; exact hw2), ?_⟩
    have R9 := R8.putM (mv' := dropK (dropK mv (kp ((lo : Int), (up : Int)))) (kp ((up : Int), (lo : Int))))
    have hT9 := tabs_put (o := .dT (dropK (dropK mv (kp ((lo : Int), (up : Int)))) (kp ((up : Int), (lo : Int))))) hT8 R8.ml (plain_dT _)
    have o9 : OffN (mutW a ro) H (upd H8 a.ml (.dT (dropK (dropK mv (kp ((lo : Int), (up : Int)))) (kp ((up : Int), (lo : Int)))))) := OffN.put o8 (mut_ml a ro)
    generalize upd H8 a.ml (.dT (dropK (dropK mv (kp ((lo : Int), (up : Int)))) (kp ((up : Int), (lo : Int))))) = H9 at *
    -- both houses lose each other
    have ll : lo < a.hs.length := by have := R9.st.lh; omega
    have ul : up < a.hs.length := by have := R9.st.lh; omega
    have ls' : lo < a.ss.length := by have := R9.st.ls; omega
    have us' : up < a.ss.length := by have := R9.st.ls; omega
    obtain ⟨hA, eA⟩ : ∃ h, a.hs[lo]? = some h := ⟨_, List.getElem?_eq_getElem ll⟩
    obtain ⟨hB, eB⟩ : ∃ h, a.hs[up]? = some h := ⟨_, List.getElem?_eq_getElem ul⟩
    obtain ⟨zA, fA⟩ : ∃ z, a.ss[lo]? = some z := ⟨_, List.getElem?_eq_getElem ls'⟩
    obtain ⟨zB, fB⟩ : ∃ z, a.ss[up]? = some z := ⟨_, List.getElem?_eq_getElem us'⟩
    refine ⟨_, rfl, _, rfl, a.x, c.W, a.dx, _, .ref a.hl, rfl, R9.st.me, TC.cl, TC.na _ (by decide), rfl, _, rfl, a.hl, _, (lo : Nat), .ref hA.x, rfl, rfl, SqL.of R9.st.hl, atI_nat (by rw [List.getElem?_map, eA]; rfl), _, rfl, ?_⟩
    refine ⟨a, rs, _, _, _, ro, m, lo, hA, zA, (up : Nat), rfl, R9, eA, fA, hT9, fun H10 nw qu o10 hT10 ap10 R10 => ?_⟩
    have o10' : OffN (mutW a ro) H H10 := o9.then (o10.sub (fun y hy => by
      simp only [List.mem_cons, List.not_mem_nil, or_false] at hy
      rcases hy with rfl | rfl
      · exact mut_x (List.mem_of_getElem? eA) ro
      · exact mut_td (List.mem_of_getElem? fA) ro))
    have m10 : mutW (setH a lo { hA with nw := nw, qu := qu }) ro = mutW a ro := mutW_setH eA
    have eB' : (setH a lo { hA with nw := nw, qu := qu }).hs[up]? = some hB := by
      show (a.hs.set lo _)[up]? = some hB
      rw [List.getElem?_set_ne (by omega)]
      exact eB
    have fB' : (setH a lo { hA with nw := nw, qu := qu }).ss[up]? = some zB := fB
    have ex : (setH a lo { hA with nw := nw, qu := qu }).x = a.x := rfl
    have ap : ∀ y u, H y = some u → (∀ ps, u ≠ .tbl ps) → y ∉ mutW a ro → y ∉ a.adr → y ∉ (setH a lo { hA with nw := nw, qu := qu }).adr := fun y u e n1 n2 n3 => ap10 y u (o9 _ _ e n1 n2) n1 (fun z => n2 (by
      simp only [List.mem_cons, List.not_mem_nil, or_false] at z
      rcases z with rfl | rfl
      · exact mut_x (List.mem_of_getElem? eA) ro
      · exact mut_td (List.mem_of_getElem? fA) ro)) n3
    generalize setH a lo { hA with nw := nw, qu := qu } = b at *
    refine ⟨_, rfl, _, rfl, b.x, c.W, b.dx, _, .ref b.hl, (by rw [ex]), R10.st.me, TC.cl, TC.na _ (by decide), rfl, _, rfl, b.hl, _, (up : Nat), .ref hB.x, rfl, rfl, SqL.of R10.st.hl, atI_nat (by rw [List.getElem?_map, eB']; rfl), _, rfl, ?_⟩
    refine ⟨b, rs, _, _, _, ro, m, up, hB, zB, (lo : Nat), (by rw [ex]; rfl), R10, eB', fB', hT10, fun H11 nw2 qu2 o11 hT11 ap11 R11 => ?_⟩
    have o11' : OffN (mutW a ro) H H11 := o10'.then (o11.sub (fun y hy => by
      rw [← m10]
      simp only [List.mem_cons, List.not_mem_nil, or_false] at hy
      rcases hy with rfl | rfl
      · exact mut_x (List.mem_of_getElem? eB') ro
      · exact mut_td (List.mem_of_getElem? fB') ro))
    refine kf H11 (setH b up { hB with nw := nw2, qu := qu2 }) ex ((mutW_setH eB').trans m10) o11' hT11 (fun y u e n1 n2 n3 => ap11 y u (o10' _ _ e n1 n2) n1 (fun z => n2 (by
      rw [← m10]
      simp only [List.mem_cons, List.not_mem_nil, or_false] at z
      rcases z with rfl | rfl
      · exact mut_x (List.mem_of_getElem? eB') ro
      · exact mut_td (List.mem_of_getElem? fB') ro)) (ap y u e n1 n2 n3)) (R11.web (delB_nd W3.nd) (fun e me => W3.ok e (List.mem_filter.mp me).1) (Nat.le_trans (List.length_filter_le _ _) W3.few) (Nat.le_trans (dropK_le _ _) (Nat.le_trans (dropK_le _ _) hml)) (fun k => ?_) (fun e me => hmr e (drop_mem (drop_mem me))))
    obtain ⟨k1, k2⟩ := k
    have hold := hmk (k1, k2)
    rw [valV_drop, valV_drop, delB_keys, delB_keys]
    by_cases c1 : (k1, k2) = ((up : Int), (lo : Int))
    · rw [if_pos (by rw [c1])]
      refine ⟨(fun ⟨_, z⟩ => by cases z), ?_⟩
      rintro (⟨h1, h2⟩ | ⟨h1, h2⟩)
      · obtain ⟨e, me, ee⟩ := List.mem_map.mp h1
        have := (W3.ok e me).2.1
        rw [ee] at this
        cases c1
        simp only [] at this
        omega
      · exact absurd (by cases c1; rfl) h2
    · rw [if_neg (kp_ne c1)]
      by_cases c2 : (k1, k2) = ((lo : Int), (up : Int))
      · rw [if_pos (by rw [c2])]
        refine ⟨(fun ⟨_, z⟩ => by cases z), ?_⟩
        rintro (⟨h1, h2⟩ | ⟨h1, h2⟩)
        · exact absurd c2 h2
        · obtain ⟨e, me, ee⟩ := List.mem_map.mp h1
          have := (W3.ok e me).2.1
          rw [ee] at this
          cases c2
          simp only [] at this
          omega
      · rw [if_neg (kp_ne c2), hold]
        constructor
        · rintro (h | h)
          · exact .inl ⟨h, c2⟩
          · exact .inr ⟨h, fun z => c1 (by cases z; rfl)⟩
        · rintro (⟨h, _⟩ | ⟨h, _⟩)
          · exact .inl h
          · exact .inr h
end
end K


namespace K
open PySem PySem.Spec PyProof.Rows L2 LamX SwD
abbrev sSlipRows : Stmt := inClass (top 56) 2
abbrev sW_len : Stmt := inClass (top 62) 2
abbrev sW_repr : Stmt := inClass (top 62) 3
abbrev sW_rows : Stmt := inClass (top 62) 27
def rowT (i lo age : Int) (s : SlipA) : List V := [.int i, .int lo, .ref s.wh, .non, .ref s.pa, .int age, .str "live"]
def spSlipRows (c : WebC) : Sp := fun vs H Q _ => ∃ (h : HomeA) (s : SlipA) (i n : Nat) (lo hi : Int), vs = [.ref h.x] ∧ HomeT H c h s i lo hi n ∧ ∀ (p t : Addr) (H' : Hp), H p = none → H t = none → Same H H' → H' p = some (.lst [.ref t]) → H' t = some (.tup (rowT (i : Nat) lo ((i : Nat) + 1) s)) → Q (.ref p) H'
def spS (c : WebC) (ans : WebA → List (Int × Int) → Hp → VK → Prop) : Sp := fun vs H Q _ => ∃ (a : WebA) (rs : List (Int × Int)) (m : Nat), vs = [.ref a.x] ∧ Still H c a rs m ∧ ans a rs H Q
def RowsAt (H : Hp) (a : WebA) (rs : List (Int × Int)) (ts : List Addr) : Prop := ts.length = rs.length ∧ ∀ (i : Nat) t r s, ts[i]? = some t → rs[i]? = some r → a.ss[i]? = some s → H t = some (.tup (rowT (i : Nat) r.1 ((i : Nat) + 1) s))
def ansRows : WebA → List (Int × Int) → Hp → VK → Prop := fun a rs H Q => ∀ (p : Addr) (ts : List Addr) (H' : Hp), H p = none → Same H H' → H' p = some (.lst (ts.map V.ref)) → RowsAt H' a rs ts → Q (.ref p) H'
theorem Still.at {H : Hp} {c : WebC} {a : WebA} {rs : List (Int × Int)} {m : Nat} (F : Still H c a rs m) {i : Nat} (hi : i < rs.length) : ∃ (h : HomeA) (r : Int × Int) (s : SlipA), a.hs[i]? = some h ∧ rs[i]? = some r ∧ a.ss[i]? = some s ∧ goodR r.1 r.2 ∧ HomeT H c h s i r.1 r.2 rs.length := by
  have h1 : a.hs[i]? = some (a.hs[i]'(by rw [F.lh]; exact hi)) := List.getElem?_eq_getElem _
  have h3 : a.ss[i]? = some (a.ss[i]'(by rw [F.ls]; exact hi)) := List.getElem?_eq_getElem _
  have h2 : rs[i]? = some rs[i] := List.getElem?_eq_getElem hi
  exact ⟨_, _, _, h1, h2, h3, F.home i _ _ _ h1 h2 h3⟩
theorem dget1 {H : Hp} {a : Addr} {lo : Int} {v : V} (h : H a = some (.dK [(Sum.inl lo, v)])) : DGet H a (.int lo) (some v) := by
  have := DGet.k (k := Sum.inl lo) h
  rw [valV_pos rfl] at this
  exact this
def rp1 (n : Nat) : Str := (Str.empty ++ "Web(") ++ Str.ofString (toString ((n : Nat) : Int))
def rp2 (n m : Nat) : Str := (rp1 n ++ " houses, ") ++ Str.ofString (toString ((m : Nat) : Int))
def rp3 (n m : Nat) : Str := (rp2 n m ++ " ties, ") ++ Str.ofString (toString ((n : Nat) : Int))
theorem rp_le : ∀ (n : Fin 9) (m : Fin 15), (rp1 n.val).length ≤ 100 ∧ (rp1 n.val ++ " houses, ").length ≤ 100 ∧ (rp2 n.val m.val).length ≤ 100 ∧ (rp2 n.val m.val ++ " ties, ").length ≤ 100 ∧ (rp3 n.val m.val).length ≤ 100 ∧ (rp3 n.val m.val ++ " slips)").length ≤ 100 := by decide +kernel
theorem log_small {n : Nat} (h : n ≤ 14) : (((n : Nat) : Int)).natAbs.log2 < 1920 := by
  have : ∀ n : Fin 15, (((n.val : Nat) : Int)).natAbs.log2 < 1920 := by decide +kernel
  exact this ⟨n, by omega⟩
def reprT (n m : Nat) : Str := rp3 n m ++ " slips)"
def spRepr (c : WebC) : Sp := fun vs H Q _ => ∃ (a : WebA) (rs : List (Int × Int)) (bs : List Bond) (ro : List Addr) (m : Nat), vs = [.ref a.x] ∧ TW H c a rs bs ro m ∧ ∀ H', Same H H' → Q (.str (reprT rs.length bs.length)) H'
theorem pi_listK {X : Cx} {K : PySem.W.Frag} (hK : X.K = K) {tg l : Expr} {tl : TE} (h : PI X tg l (iList X.K tl)) : PI X tg l (iList K tl) := by subst hK; exact h
section
variable {P : Program} {w : World} {K : PySem.W.Frag} {mg : Str → Option Value} {base : Heap}
theorem scSlipRows : FnScope ["self", "slips", "number", "slip"] ["self"] (defScope sSlipRows) := ⟨rfl, rfl, rfl, by decide +kernel, rfl, by decide +kernel, by decide +kernel⟩
theorem ok_slipRows {f : Addr} {c : WebC} {fd : FuncData} {k : Nat} (F : Fun K "slip_rows" "House.slip_rows" sSlipRows f fd) (T : BT mg) {fH fS : Addr} (TH : ClsT K mg "House" c.H fH homeFs) (TS : ClsT K mg "Slip" c.S fS slipFs) : FnOk P w K mg base CX0 (k + 1) f fd ["self"] (spSlipRows c) := by
  refine F.ok scSlipRows (fun vs H Q E h => ?_) (fun cdv A outer s H vs Q E hr h => ?_)
  · obtain ⟨h, z, i, n, lo, hi, rfl, _⟩ := h
    rfl
  · obtain ⟨h, z, i, n, lo, hi, rfl, hs, kk⟩ := h
    have hu := hu_of hr
    refine ⟨_, pss_cons (ps_setLc (i := 1) (own := [("number", 2)]) (g := gName 2) (tt := tYes) rfl scSlipRows.nd rfl rfl (sw_true rfl rfl rfl (by decide +kernel)) (by exact (pi_list (pe_callB (call_sortedDA rfl) (by rfl) T.sorted (by decide +kernel) (pa_cons (pe_fld (pv 0) rfl) pa_nil)))) (blkOk_by (own := [("number", 2)]) (N := ["self", "slips", "number", "slip"]) (sc := defScope sSlipRows) (by decide +kernel)) (fun _ _ _ _ _ => by exact (pg_name (i := 2) scSlipRows.nd rfl (Or.inl rfl))) (fun _ _ _ _ _ => by exact pts_nil) (fun _ _ _ _ _ => by exact (pe_dget hu (pe_fldK (K := K) rfl (pe_fld (pv 0) rfl)) (pv 2) (fun _ _ => rfl)))) (pss_one (ps_ret (pe_lc (own := [("slip", 3)]) (g := gName 3) (tt := tYes) rfl scSlipRows.nd (by exact (pi_list (pv 1))) (blkOk_by (own := [("slip", 3)]) (N := ["self", "slips", "number", "slip"]) (sc := defScope sSlipRows) (by decide +kernel)) (fun _ _ _ _ _ => by exact (pg_name (i := 3) scSlipRows.nd rfl (Or.inl rfl))) (fun _ _ _ _ _ => by exact pts_nil) (fun _ _ _ _ _ => by exact (pe_tup (pa_cons (pe_fldK (K := K) rfl (pe_fld (pv 0) rfl)) (pa_cons (pe_fldK (K := K) rfl (pe_fld (pv 3) rfl)) (pa_cons (pe_fldK (K := K) rfl (pe_fld (pv 3) rfl)) (pa_cons (pe_fldK (K := K) rfl (pe_fld (pv 3) rfl)) (pa_cons (pe_fldK (K := K) rfl (pe_fld (pv 3) rfl)) (pa_cons (pe_fldK (K := K) rfl (pe_fld (pv 3) rfl)) (pa_cons (pe_fldK (K := K) rfl (pe_fld (pv 3) rfl)) pa_nil)))))))))))), ?_⟩
    refine ⟨_, rfl, h.x, c.H, h.dx, _, _, rfl, hs.me, TH.cl, TH.na _ (by decide), rfl, h.st, _, [lo], rfl, Rd.of hs.st, rfl, (by show 1 ≤ sizeLine; decide), fun ys l hp _ nl => ?_⟩
    have e0 : ys = [lo] := List.perm_singleton.mp hp
    subst e0
    have s1 := same_upd (o := .lst [.int lo]) nl
    refine ⟨l, rfl, ⟨_, SqL.of upd_same⟩, fun D nD => ?_⟩
    have hl1 : upd H l (.lst ([lo].map V.int)) l = some (.lst [.int lo]) := upd_same
    have s1 : Same H (upd H l (.lst ([lo].map V.int))) := s1
    generalize upd H l (.lst ([lo].map V.int)) = H1 at *
    refine lc_list (K := K) (a := l) (xs := [.int lo]) (fun j Hj => Same H1 Hj ∧ Hj D = some (.lst ([V.ref z.sl].take j))) ⟨same_upd nD, upd_same⟩ (fun j Hj _ q => SqL.of (q.1 _ _ hl1)) ?_ ?_
    · rintro j y Hj hy ⟨sj, hD⟩
      match j, hy with
      | 0, hy =>
        cases hy
        have hsj := hs.same (s1.trans sj)
        refine ⟨rfl, ?_⟩
        refine ⟨_, rfl, h.x, c.H, h.dx, _, _, rfl, hsj.me, TH.cl, TH.na _ (by decide), rfl, _, rfl, h.st, _, rfl, dget1 hsj.st, _, hD, (by show 0 < sizeLine; decide), fun b o e => ?_, upd_same⟩
        rw [upd_ne (ne_of_none e nD)]
        exact sj _ _ e
    · rintro H2 ⟨sj, hD⟩
      have hD : H2 D = some (.lst [V.ref z.sl]) := hD
      have nD0 := s1.free nD
      refine ⟨_, rfl, D, rfl, ⟨_, SqL.of hD⟩, fun D2 nD2 => ?_⟩
      refine lc_list (K := K) (a := D) (xs := [V.ref z.sl]) (fun j Hj => Same H2 Hj ∧ ∃ ts : List Addr, ts.length = j ∧ Hj D2 = some (.lst (ts.map V.ref)) ∧ ∀ t ∈ ts, H2 t = none ∧ Hj t = some (.tup (rowT (i : Nat) lo ((i : Nat) + 1) z))) ⟨same_upd nD2, [], rfl, upd_same, fun t m => by cases m⟩ (fun j Hj _ q => SqL.of (q.1 _ _ hD)) ?_ ?_
      · rintro j y Hj hy ⟨sj2, ts, lt, hD2, hts⟩
        match j, hy with
        | 0, hy =>
          cases hy
          have e1 : ts = [] := List.length_eq_zero_iff.mp lt
          subst e1
          have hs4 := hs.same (s1.trans (sj.trans sj2))
          refine ⟨rfl, ?_⟩
          refine ⟨_, rfl, h.x, c.H, h.dx, _, _, rfl, hs4.me, TH.cl, TH.na _ (by decide), rfl, _, rfl, z.sl, c.S, z.dsl, _, _, rfl, hs4.sl, TS.cl, TS.na _ (by decide), rfl, _, rfl, z.sl, c.S, z.dsl, _, _, rfl, hs4.sl, TS.cl, TS.na _ (by decide), rfl, _, rfl, z.sl, c.S, z.dsl, _, _, rfl, hs4.sl, TS.cl, TS.na _ (by decide), rfl, _, rfl, z.sl, c.S, z.dsl, _, _, rfl, hs4.sl, TS.cl, TS.na _ (by decide), rfl, _, rfl, z.sl, c.S, z.dsl, _, _, rfl, hs4.sl, TS.cl, TS.na _ (by decide), rfl, _, rfl, z.sl, c.S, z.dsl, _, _, rfl, hs4.sl, TS.cl, TS.na _ (by decide), rfl, (by show 7 ≤ sizeLine; decide), fun t nt => ?_⟩
          have st := same_upd (o := .tup (rowT (i : Nat) lo ((i : Nat) + 1) z)) nt
          have nt2 : t ≠ D2 := Ne.symm (ne_of_none hD2 nt)
          refine ⟨_, st _ _ hD2, (by show 0 < sizeLine; decide), fun b o e => ?_, [t], rfl, upd_same, fun x mx => ?_⟩
          · rw [upd_ne (ne_of_none e nD2)]
            exact st _ _ (sj2 _ _ e)
          · rw [List.mem_singleton.mp mx]
            exact ⟨sj2.free nt, by rw [upd_ne nt2]; exact upd_same⟩
      · rintro H4 ⟨sj2, ts, lt, hD2, hts⟩
        match ts, lt with
        | [t], _ =>
          obtain ⟨n1, n2⟩ := hts t (by simp)
          exact kk D2 t H4 (s1.free (sj.free nD2)) (s1.free (sj.free n1)) (s1.trans (sj.trans sj2)) hD2 n2
theorem scW_rows : FnScope ["self", "home", "row"] ["self"] (defScope sW_rows) := ⟨rfl, rfl, rfl, by decide +kernel, rfl, by decide +kernel, by decide +kernel⟩
theorem ok_W_rows {f : Addr} {c : WebC} {fd : FuncData} {k : Nat} (F : Fun K "rows" "Web.rows" sW_rows f fd) (T : BT mg) {fW fH fS : Addr} (TC : ClsT K mg "Web" c.W fW webFs) (TH : ClsT K mg "House" c.H fH homeFs) (TS : ClsT K mg "Slip" c.S fS slipFs) {fR : Addr} {fdR : FuncData} (mR : Meth K c.H "slip_rows" fR) (GR : FnOk P w K mg base CX0 (k + 1) fR fdR ["self"] (spSlipRows c)) (bR : Binds K fdR ["self"] []) : FnOk P w K mg base CX0 (k + 2) f fd ["self"] (spS c ansRows) := by
  refine F.ok scW_rows (fun vs H Q E h => ?_) (fun cdv A outer s H vs Q E hr h => ?_)
  · obtain ⟨a, rs, m0, rfl, _⟩ := h
    rfl
  · obtain ⟨a, rs, m0, rfl, hF, q⟩ := h
    have hu := hu_of hr
    refine ⟨_, pss_one (ps_ret (pe_lc2 (own := [("home", 1), ("row", 2)]) (vs1 := [2]) (g := gName 1) (tt := tYes) (g1 := gName 2) (tt1 := tYes) rfl scW_rows.nd (by exact (pi_list (pe_fld (pv 0) rfl))) (blkOk_by (own := [("home", 1), ("row", 2)]) (N := ["self", "home", "row"]) (sc := defScope sW_rows) (by decide +kernel)) (by decide) (fun _ _ _ _ _ => by exact (pg_name (i := 1) scW_rows.nd rfl (Or.inl rfl))) (fun _ _ _ _ _ => by exact pts_nil) (fun _ _ _ _ _ => by exact (pi_listK (K := K) rfl (pi_list (pe_meth0 (pv 1) TH.cl mR GR hr bR .nil pass0)))) (fun _ _ _ _ _ => by exact (pg_name (i := 2) scW_rows.nd rfl (Or.inl rfl))) (fun _ _ _ _ _ => by exact pts_nil) (fun _ _ _ _ _ => by exact (pv 2)))), ?_⟩
    refine ⟨_, rfl, a.x, c.W, a.dx, _, _, rfl, hF.me, TC.cl, TC.na _ (by decide), rfl, a.hl, rfl, ⟨_, SqL.of hF.hl⟩, fun D nD => ?_⟩
    have ok : ∀ (j : Nat) Hj, (Same H Hj ∧ ∃ ts : List Addr, ts.length = j ∧ Hj D = some (.lst (ts.map V.ref)) ∧ (∀ t ∈ ts, t ≠ D) ∧ ∀ (i : Nat) t r s, ts[i]? = some t → rs[i]? = some r → a.ss[i]? = some s → Hj t = some (.tup (rowT (i : Nat) r.1 ((i : Nat) + 1) s))) → True := fun _ _ _ => trivial
    refine ⟨fun j m Hj => m + j = a.hs.length ∧ Same H Hj ∧ ∃ ts : List Addr, ts.length = j ∧ Hj D = some (.lst (ts.map V.ref)) ∧ (∀ t ∈ ts, t ≠ D) ∧ ∀ (i : Nat) t r s, ts[i]? = some t → rs[i]? = some r → a.ss[i]? = some s → Hj t = some (.tup (rowT (i : Nat) r.1 ((i : Nat) + 1) s)),
      ⟨a.hs.length, rfl, same_upd nD, [], rfl, upd_same, (fun t m => by cases m), fun i t r s z => by simp at z⟩, ?_⟩
    rintro j m Hj ⟨em, sj, ts, lt, hD, ntD, hrows⟩
    have hlj := SqL.of (K := K) (sj _ _ hF.hl)
    rcases Nat.lt_or_ge j a.hs.length with cj | cj
    · obtain ⟨h, eh⟩ : ∃ h, a.hs[j]? = some h := ⟨_, List.getElem?_eq_getElem cj⟩
      have jl : j < rs.length := by rw [← hF.lh]; exact cj
      obtain ⟨h', r, z, e1, e2, e3, hg, hA⟩ := hF.at jl
      rw [eh] at e1
      cases e1
      refine .inr ⟨⟨_, _, hlj, by rw [List.getElem?_map, eh]; rfl⟩, fun H2 => Same H H2 ∧ ∃ ts' : List Addr, ts'.length = j + 1 ∧ H2 D = some (.lst (ts'.map V.ref)) ∧ (∀ t ∈ ts', t ≠ D) ∧ ∀ (i : Nat) t r s, ts'[i]? = some t → rs[i]? = some r → a.ss[i]? = some s → H2 t = some (.tup (rowT (i : Nat) r.1 ((i : Nat) + 1) s)), fun H2 q2 => ⟨m - 1, by omega, by omega, q2⟩, ?_⟩
      rintro x H2 ⟨eH, ex⟩
      have ex := ex _ hlj
      rw [List.getElem?_map, eh] at ex
      cases ex
      subst eH
      refine ⟨rfl, ?_⟩
      refine ⟨_, rfl, h.x, h.dx, _, rfl, (hA.same sj).me, rfl, h, z, j, rs.length, r.1, r.2, rfl, hA.same sj, fun p t H3 np nt s3 hp ht => ?_⟩
      have nDp : p ≠ D := Ne.symm (ne_of_none hD np)
      have nDt : t ≠ D := Ne.symm (ne_of_none hD nt)
      refine ⟨p, rfl, ⟨_, SqL.of hp⟩, ?_⟩
      refine ⟨fun i k H4 => k + i = 1 ∧ Same H H4 ∧ H4 p = some (.lst [.ref t]) ∧ (i = 0 → H4 = H3) ∧ (i = 1 → H4 = upd H3 D (.lst (ts.map V.ref ++ [.ref t]))), ⟨1, rfl, sj.trans s3, hp, fun _ => rfl, fun z => by cases z⟩, ?_⟩
      rintro i k H4 ⟨ek, s4, hp4, i0, i1⟩
      have hq4 := SqL.of (K := K) hp4
      match i, ek with
      | 0, ek =>
        have := i0 rfl
        subst this
        refine .inr ⟨⟨_, _, hq4, rfl⟩, fun H5 => H5 = upd H4 D (.lst (ts.map V.ref ++ [.ref t])), fun H5 e5 => ⟨0, by omega, by omega, ?_, ?_, (fun z => by cases z), fun _ => e5⟩, ?_⟩
        · intro b o e
          rw [e5, upd_ne (ne_of_none e nD)]
          exact s4 _ _ e
        · rw [e5, upd_ne nDp]
          exact hp4
        · rintro y H5 ⟨eH, ey⟩
          have ey := ey _ hq4
          cases ey
          subst eH
          exact ⟨rfl, _, rfl, _, s3 _ _ hD, by rw [List.length_map, lt]; exact small1000 (by have := hF.n8; omega), rfl⟩
      | 1, ek =>
        have := i1 rfl
        subst this
        refine .inl ⟨⟨_, hq4, Nat.le_refl _⟩, s4, ts ++ [t], by rw [List.length_append, lt]; rfl, by rw [upd_same, List.map_append]; rfl, ?_, ?_⟩
        · intro x mx
          rcases List.mem_append.mp mx with m | m
          · exact ntD x m
          · rw [List.mem_singleton.mp m]; exact nDt
        · intro i t' r' s' h1 h2 h3
          by_cases qi : i < ts.length
          · rw [List.getElem?_append_left qi] at h1
            rw [upd_ne (ntD t' (List.mem_of_getElem? h1))]
            exact s3 _ _ (hrows i t' r' s' h1 h2 h3)
          · rw [List.getElem?_append_right (by omega)] at h1
            have e0 : i - ts.length = 0 := by
              by_cases z0 : i - ts.length = 0
              · exact z0
              · rw [List.getElem?_eq_none (by simp; omega)] at h1
                cases h1
            rw [e0] at h1
            have h1 : t = t' := by simpa using h1
            have ei : i = j := by omega
            subst h1 ei
            rw [e2] at h2
            rw [e3] at h3
            cases h2
            cases h3
            rw [upd_ne nDt]
            exact ht
    · refine .inl ⟨⟨_, hlj, by rw [List.length_map]; omega⟩, ?_⟩
      have ej : j = a.hs.length := by omega
      subst ej
      exact q D ts Hj nD sj hD ⟨by rw [lt, hF.lh], hrows⟩
theorem scW_len : FnScope ["self"] ["self"] (defScope sW_len) := ⟨rfl, rfl, rfl, by decide +kernel, rfl, by decide +kernel, by decide +kernel⟩
theorem ok_W_len {f : Addr} {c : WebC} {fd : FuncData} {k : Nat} (F : Fun K "__len__" "Web.__len__" sW_len f fd) (T : BT mg) {fW fH fS : Addr} (TC : ClsT K mg "Web" c.W fW webFs) (TH : ClsT K mg "House" c.H fH homeFs) (TS : ClsT K mg "Slip" c.S fS slipFs) {fR : Addr} {fdR : FuncData} (mR : Meth K c.W "rows" fR) (GR : FnOk P w K mg base CX0 (k + 2) fR fdR ["self"] (spS c ansRows)) (bR : Binds K fdR ["self"] []) : FnOk P w K mg base CX0 (k + 3) f fd ["self"] (spS c fun _ rs H Q => ∀ H', Same H H' → Q (.int (rs.length : Nat)) H') := by
  refine F.ok scW_len (fun vs H Q E h => ?_) (fun cdv A outer s H vs Q E hr h => ?_)
  · obtain ⟨a, rs, m0, rfl, _⟩ := h
    rfl
  · obtain ⟨a, rs, m0, rfl, hF, q⟩ := h
    have hu := hu_of hr
    refine ⟨_, pss_one (ps_ret (pe_callB call_len_seq (by rfl) T.len PySem.boot_len (pa_cons (pe_meth0 (pv 0) TC.cl mR GR hr bR .nil pass0) pa_nil))), ?_⟩
    refine ⟨_, rfl, a.x, a.dx, _, rfl, hF.me, rfl, a, rs, m0, rfl, hF, fun p ts H2 np s2 hp hr2 => ?_⟩
    refine ⟨p, _, rfl, .inl (SqL.of hp), ?_⟩
    rw [List.length_map, hr2.1]
    exact q H2 s2
theorem scW_repr : FnScope ["self"] ["self"] (defScope sW_repr) := ⟨rfl, rfl, rfl, by decide +kernel, rfl, by decide +kernel, by decide +kernel⟩
theorem ok_W_repr {f : Addr} {c : WebC} {fd : FuncData} {k : Nat} (F : Fun K "__repr__" "Web.__repr__" sW_repr f fd) (T : BT mg) {fW fH fS : Addr} (TC : ClsT K mg "Web" c.W fW webFs) (TH : ClsT K mg "House" c.H fH homeFs) (TS : ClsT K mg "Slip" c.S fS slipFs) {fL : Addr} {fdL : FuncData} (mL : PySem.W.findIn K (.ref c.W) "__len__" = some (some (.ref fL))) (nL : PySem.W.isFn K (.ref fL) = true) (GL : FnOk P w K mg base CX0 (k + 3) fL fdL ["self"] (spS c fun _ rs H Q => ∀ H', Same H H' → Q (.int (rs.length : Nat)) H')) (bL : Binds K fdL ["self"] []) : FnOk P w K mg base CX0 (k + 5) f fd ["self"] (spRepr c) := by
  refine F.ok scW_repr (fun vs H Q E h => ?_) (fun cdv A outer s H vs Q E hr h => ?_)
  · obtain ⟨a, rs, bs, ro, m0, rfl, _⟩ := h
    rfl
  · obtain ⟨a, rs, bs, ro, m0, rfl, hW, q⟩ := h
    have hF := hW.st
    obtain ⟨kb, hb, hbp⟩ := hW.b
    have hbl : kb.length = bs.length := paired_len hbp
    have hu := hu_of hr
    refine ⟨_, pss_one (ps_ret (pe_joined (.cons pe_str (.cons (pe_fmt (pe_callB call_len_seq (by rfl) T.len PySem.boot_len (pa_cons (pe_fld (pv 0) rfl) pa_nil))) (.cons pe_str (.cons (pe_fmt (pe_callB call_len_dT (by rfl) T.len PySem.boot_len (pa_cons (pe_fld (pv 0) rfl) pa_nil))) (.cons pe_str (.cons (pe_fmt (pe_callB (SwO.call_lenOwn GL mL nL bL hr.in1) (by rfl) T.len PySem.boot_len (pa_cons (pv 0) pa_nil))) (.cons pe_str .nil))))))))), ?_⟩
    obtain ⟨l1, l2, l3, l4, l5, l6⟩ := rp_le ⟨rs.length, by have := hF.n8; omega⟩ ⟨bs.length, by have := hW.few; omega⟩
    have big : ∀ {m : Nat}, m ≤ 100 → m ≤ sizeLine := fun h => Nat.le_trans h (by decide)
    refine ⟨_, rfl, (by decide +kernel), _, rfl, a.x, c.W, a.dx, _, _, rfl, hF.me, TC.cl, TC.na _ (by decide), rfl, a.hl, _, rfl, .inl (SqL.of hF.hl), ?_⟩
    rw [List.length_map, hF.lh]
    refine .inr ⟨_, rfl, log_small (Nat.le_trans hF.n8 (by decide)), _, rfl, big l1, _, rfl, big l2, _, rfl, a.x, c.W, a.dx, _, _, rfl, hF.me, TC.cl, TC.na _ (by decide), rfl, a.b, kb, rfl, hb, ?_⟩
    rw [hbl]
    exact .inr ⟨_, rfl, log_small hW.few, _, rfl, big l3, _, rfl, big l4, _, rfl, a.x, a.dx, _, rfl, hF.me, a, rs, m0, rfl, hF, fun H2 s2 => ⟨rs.length, rfl, by have := hF.n8; omega, .inr ⟨_, rfl, log_small (Nat.le_trans hF.n8 (by decide)), _, rfl, big l5, _, rfl, big l6, q H2 s2⟩⟩⟩
end
end K


/-! [key + d[key] for key in sorted(d)] -/
namespace K
open PySem PySem.Spec PyProof.Rows L2 SwD
def RowB (H : Hp) (bs : List Bond) (t : Addr) (k : Int × Int) : Prop := ∃ v, bget bs k = some v ∧ H t = some (.tup [.int k.1, .int k.2, .int v.1, .bl v.2])
theorem below_eq {a b : Int × Int} (ha : small a) (hb : small b) (h1 : below a b) (h2 : below b a) : a = b := by
  unfold small below at *
  have e1 : a.1 = b.1 := by omega
  have e2 : a.2 = b.2 := by omega
  exact Prod.ext e1 e2
theorem below_uniq : ∀ {ys zs : List (Int × Int)}, ys.Perm zs → ys.Pairwise below → zs.Pairwise below → (∀ k ∈ ys, small k) → ys = zs
  | [], zs, p, _, _, _ => (List.nil_perm.mp p).symm
  | y :: ys, [], p, _, _, _ => by simp at p
  | y :: ys, z :: zs, p, h1, h2, hs => by
    have sz : small z := hs z (p.mem_iff.mpr (List.mem_cons_self ..))
    have sy : small y := hs y (List.mem_cons_self ..)
    have e : y = z := by
      rcases List.mem_cons.mp (p.mem_iff.mp (List.mem_cons_self ..)) with e | m1
      · exact e
      · rcases List.mem_cons.mp (p.mem_iff.mpr (List.mem_cons_self (a := z) (l := zs))) with e | m2
        · exact e.symm
        · exact below_eq sy sz ((List.pairwise_cons.mp h1).1 z m2) ((List.pairwise_cons.mp h2).1 y m1)
    subst e
    rw [below_uniq (List.Perm.cons_inv p) (List.pairwise_cons.mp h1).2 (List.pairwise_cons.mp h2).2 (fun k m => hs k (List.mem_cons_of_mem _ m))]
theorem lc_cat {K : PySem.W.Frag} {l D : Addr} {as : List Addr} {ys : List (Int × Int)} {bs : List Bond} {H1 : Hp} {te : TE} {σ : L2.St} {vs : List Nat} {i : Nat} {Z : Hp → Prop} (hl : H1 l = some (.lst (as.map V.ref))) (hp : Paired (PairAt H1) as ys) (hv : ∀ k ∈ ys, ∃ v, bget bs k = some v) (nD : H1 D = none) (h64 : ys.length ≤ 900)
    (hw : ∀ x, wipe ((wipe σ vs).set i (some x)) vs = wipe σ vs)
    (step : ∀ (b : Addr) (k : Int × Int) (v : Int × Bool) (Hj : Hp) (Q : VK), Same H1 Hj → PairAt Hj b k → bget bs k = some v → (∀ t, Hj t = none → Q (.ref t) (upd Hj t (.tup [.int k.1, .int k.2, .int v.1, .bl v.2]))) → te ((wipe σ vs).set i (some (.ref b))) Hj Q)
    (out : ∀ (H' : Hp) (ts : List Addr), Same H1 H' → H' D = some (.lst (ts.map V.ref)) → Paired (RowB H' bs) ts ys → Z H') :
    ∃ W : Nat → Nat → Hp → Prop, (∃ m, W 0 m (upd H1 D (.lst []))) ∧ ∀ n m H, W n m H →
      ((Itl K l).stop n H ∧ Z H) ∨ ((Itl K l).go n H ∧ ∃ Nx : Hp → Prop, (∀ H', Nx H' → ∃ m', m' < m ∧ W (n + 1) m' H') ∧ ∀ x H', (Itl K l).yld n H x H' → gName i x (wipe σ vs) H' fun σ2 H2 => wipe σ2 vs = wipe σ vs ∧ tYes σ2 H2 fun b H3 =>
        if b = true then te σ2 H3 fun y H4 => ∃ acc, H4 D = some (.lst acc) ∧ acc.length < sizeLine ∧ Nx (upd H4 D (.lst (acc ++ [y]))) else Nx H3) := by
  have lay : as.length = ys.length := paired_len hp
  refine lc_list (K := K) (a := l) (xs := as.map V.ref) (fun j Hj => Same H1 Hj ∧ ∃ ts : List Addr, Hj D = some (.lst (ts.map V.ref)) ∧ Paired (RowB Hj bs) ts (ys.take j)) ⟨same_upd nD, [], upd_same, .nil⟩ (fun j Hj _ q => SqL.of (q.1 _ _ hl)) ?_ ?_
  · rintro j x Hj hx ⟨sj, ts, hD, hts⟩
    rw [List.getElem?_map] at hx
    obtain ⟨b, hb, rfl⟩ := Option.map_eq_some_iff.mp hx
    obtain ⟨k, hk, hbk⟩ := paired_at hp j b hb
    have mk := List.mem_of_getElem? hk
    obtain ⟨v, hv⟩ := hv k mk
    refine ⟨hw _, ?_⟩
    refine step b k v Hj _ sj (sj _ _ hbk) hv fun t nt => ?_
    have nDt : D ≠ t := fun e => by rw [e, nt] at hD; cases hD
    have st := same_upd (o := .tup [.int k.1, .int k.2, .int v.1, .bl v.2]) nt
    have lt : ts.length ≤ ys.length := by rw [paired_len hts]; exact (List.length_take_le' _ _)
    refine ⟨ts.map V.ref, by rw [upd_ne nDt]; exact hD, by rw [List.length_map]; exact small1000 (by omega), ?_, ts ++ [t], by rw [upd_same, List.map_append]; rfl, ?_⟩
    · intro y o e
      rw [upd_ne (ne_of_none e nD)]
      exact st _ _ (sj _ _ e)
    · rw [List.take_add_one, hk]
      refine paired_append (paired_mono (fun u r ⟨w, h1, h2⟩ => ⟨w, h1, ?_⟩) hts) (.cons ⟨v, hv, ?_⟩ .nil)
      · rw [upd_ne (Ne.symm nDt)]
        exact upd_same
      · rw [upd_ne (fun e => by rw [e, hD] at h2; cases h2)]
        exact st _ _ h2
  · rintro Hj ⟨sj, ts, hD, hts⟩
    rw [List.length_map, lay, List.take_length] at hts
    exact out Hj ts sj hD hts
end K

namespace K
open PySem PySem.Spec PyProof.Rows L2 LamX SwD
abbrev sW_ties : Stmt := inClass (top 62) 20
def spTies (c : WebC) : Sp := fun vs H Q _ => ∃ (a : WebA) (rs : List (Int × Int)) (bs : List Bond) (ro : List Addr) (m : Nat), vs = [.ref a.x] ∧ TW H c a rs bs ro m ∧ ∀ (p : Addr) (H' : Hp) (ys : List (Int × Int)) (ts : List Addr), H p = none → Same H H' → ys.Perm (bs.map (·.1)) → ys.Pairwise below → H' p = some (.lst (ts.map V.ref)) → Paired (RowB H' bs) ts ys → Q (.ref p) H'
theorem TW.small {H : Hp} {c : WebC} {a : WebA} {rs : List (Int × Int)} {bs : List Bond} {ro : List Addr} {m : Nat} (t : TW H c a rs bs ro m) : ∀ k ∈ bs.map (·.1), small k := fun k mk => by
  obtain ⟨e, me, rfl⟩ := List.mem_map.mp mk
  obtain ⟨h1, h2, h3⟩ := t.ok e me
  have := t.st.n8
  unfold SwD.small
  omega
theorem bond_keys {H : Hp} {kb : List (List Key × V)} {bs : List Bond} (h : Paired (BondAt H) kb bs) : kb.map (·.1) = (bs.map (·.1)).map kp := by
  induction h with
  | nil => rfl
  | cons q _ ih =>
    rw [List.map_cons, List.map_cons, List.map_cons, ih, q.1]
section
variable {P : Program} {w : World} {K : PySem.W.Frag} {mg : Str → Option Value} {base : Heap}
theorem scW_ties : FnScope ["self", "pair"] ["self"] (defScope sW_ties) := ⟨rfl, rfl, rfl, by decide +kernel, rfl, by decide +kernel, by decide +kernel⟩
theorem ok_ties {f fW : Addr} {c : WebC} {fd : FuncData} {k : Nat} (F : Fun K "ties" "Web.ties" sW_ties f fd) (T : BT mg) (TC : ClsT K mg "Web" c.W fW webFs) : FnOk P w K mg base CX0 (k + 1) f fd ["self"] (spTies c) := by
  refine F.ok scW_ties (fun vs H Q E h => ?_) (fun cdv A outer s H vs Q E hr h => ?_)
  · obtain ⟨a, rs, bs, ro, m, rfl, _⟩ := h
    rfl
  · obtain ⟨a, rs, bs, ro, m, rfl, W, q⟩ := h
    have hu := hu_of hr
    refine ⟨_, pss_one (ps_ret (pe_lc (own := [("pair", 1)]) (g := gName 1) (tt := tYes) rfl scW_ties.nd (by exact (pi_list (pe_callB (call_sortedDT rfl) (by rfl) T.sorted (by decide +kernel) (pa_cons (pe_fld (pv 0) rfl) pa_nil)))) (blkOk_by (own := [("pair", 1)]) (N := ["self", "pair"]) (sc := defScope sW_ties) (by decide +kernel)) (fun _ _ _ _ _ => by exact (pg_name (i := 1) scW_ties.nd rfl (Or.inl rfl))) (fun _ _ _ _ _ => by exact pts_nil) (fun _ _ _ _ _ => by exact (pe_op (r := rCatT K) op_catT (pv 1) (pe_dget hu (pe_fldK (K := K) rfl (pe_fld (pv 0) rfl)) (pv 1) (fun _ _ => rfl)))))), ?_⟩
    obtain ⟨kb, hb, hp⟩ := W.b
    refine ⟨_, rfl, a.x, c.W, a.dx, _, .ref a.b, rfl, W.st.me, TC.cl, TC.na _ (by decide), rfl, a.b, kb, bs.map (·.1), rfl, Rd.of hb, bond_keys hp, by rw [List.length_map]; have := W.few; omega, W.small, fun as ys l pm pw pr nl => ?_⟩
    have s1 := same_upd (o := .lst (as.map V.ref)) nl
    have W1 := W.same s1
    have hl := upd_same (H := H) (a := l) (o := .lst (as.map V.ref))
    have pr1 : Paired (PairAt (upd H l (.lst (as.map V.ref)))) as ys := paired_mono (fun b k h => s1 _ _ h) pr
    generalize upd H l (.lst (as.map V.ref)) = H1 at *
    refine ⟨l, rfl, ⟨_, SqL.of hl⟩, fun D nD => ?_⟩
    refine lc_cat (bs := bs) hl pr1 (fun k mk => bget_some.mpr (pm.mem_iff.mp mk)) nD (by rw [pm.length_eq, List.length_map]; have := W.few; omega) (fun x => rfl) ?_ ?_
    · intro b k v Hj Q sj hb hv kk
      have Wj := W1.same sj
      obtain ⟨kbj, hbj, hpj⟩ := Wj.b
      obtain ⟨tv, hv1, htv⟩ := (bond_get (k := k) hpj).2 v hv
      refine ⟨_, rfl, _, rfl, a.x, c.W, a.dx, _, .ref a.b, rfl, Wj.st.me, TC.cl, TC.na _ (by decide), rfl, _, rfl, a.b, .ref tv, rfl, .inr ⟨kbj, kp k, b, .inl hbj, rfl, hb, hv1.symm⟩, b, tv, _, _, rfl, rfl, SqT.of hb, SqT.of htv, (fun z => by cases z), (by show 4 ≤ sizeLine; decide), (fun z => by cases z), fun _ t nt => kk t nt⟩
    · intro H' ts s' hD hts
      exact q D H' ys ts (s1.free nD) (s1.trans s') pm pw hD hts
end
end K


namespace K
open PySem PySem.Spec PyProof.Rows L2
abbrev sIsRange : Stmt := top 53
abbrev sNumI : Stmt := inClass (top 54) 0
abbrev sNumTake : Stmt := inClass (top 54) 1
section
variable {P : Program} {w : World} {K : PySem.W.Frag} {mg : Str → Option Value} {base : Heap}
theorem scIsRange : FnScope ["low", "high"] ["low", "high"] (defScope sIsRange) := ⟨rfl, rfl, rfl, by decide +kernel, rfl, by decide +kernel, by decide +kernel⟩
theorem ok_isrange {f : Addr} {fd : FuncData} {k : Nat} {t1 t2 : Tok} (F : Fun K "is_range" "is_range" sIsRange f fd) (mA : mg "MOST_ABOVE" = some (.int 63 t1)) (mM : mg "MOST_NUMBER" = some (.int 9999 t2)) : FnOk P w K mg base CX0 (k + 1) f fd ["low", "high"] spIsRange := by
  refine F.ok scIsRange (fun vs H Q E h => ?_) (fun cdv A outer s H vs Q E hr h => ?_)
  · obtain ⟨lo, hi, rfl, _⟩ := h
    rfl
  · obtain ⟨lo, hi, rfl, kk⟩ := h
    refine ⟨_, pss_one (ps_ret (pe_and (pe_chain3 op_le op_le op_le pe_int (pv 0) (pv 1) (pe_op op_add (pv 0) (pe_glob (v := .int 63) (by rfl) mA ⟨_, rfl⟩))) (pe_one (pe_cmpR op_le (pv 1) (pe_glob (v := .int 9999) (by rfl) mM ⟨_, rfl⟩) (nomark _))))), ?_⟩
    refine ⟨_, rfl, _, _, rfl, rfl, _, rfl, ite2 (fun c => ?_) (fun c => ?_)⟩
    · have c := of_decide_eq_true c
      refine ⟨_, rfl, _, _, rfl, rfl, _, rfl, ite2 (fun c2 => ?_) (fun c2 => ?_)⟩
      · have c2 := of_decide_eq_true c2
        refine ⟨_, rfl, _, _, rfl, rfl, _, _, rfl, rfl, _, rfl, ite2 (fun c3 => ?_) (fun c3 => ?_)⟩
        · have c3 := of_decide_eq_true c3
          refine ⟨_, rfl, _, _, rfl, rfl, ?_⟩
          exact kk _ ⟨fun z => ⟨c, c2, c3, of_decide_eq_true z⟩, fun z => decide_eq_true z.2.2.2⟩
        · exact kk _ ⟨fun z => (by cases z), fun z => absurd (decide_eq_true z.2.2.1) c3⟩
      · exact ⟨_, rfl, iteF (kk _ ⟨fun z => (by cases z), fun z => absurd (decide_eq_true z.2.1) c2⟩)⟩
    · exact ⟨_, rfl, iteF (kk _ ⟨fun z => (by cases z), fun z => absurd (decide_eq_true z.1) c⟩)⟩
theorem scNumI : FnScope ["self", "low", "high"] ["self", "low", "high"] (defScope sNumI) := ⟨rfl, rfl, rfl, by decide +kernel, rfl, by decide +kernel, by decide +kernel⟩
theorem ok_numI {f C fI fR : Addr} {fd fdR : FuncData} {k : Nat} (F : Fun K "__init__" "Numbers.__init__" sNumI f fd) (T : NumT K mg C fI) (cR : Cal P w K mg base (k + 1) "is_range" fR fdR ["low", "high"] spIsRange) : FnOk P w K mg base CX0 (k + 2) f fd ["self", "low", "high"] (spNumI C) := by
  refine F.ok scNumI (fun vs H Q E h => ?_) (fun cdv A outer s H vs Q E hr h => ?_)
  · obtain ⟨x, dx, lo, hi, rfl, _⟩ := h
    rfl
  · obtain ⟨x, dx, lo, hi, rfl, hx, hg, kk⟩ := h
    refine ⟨_, pss_cons (ps_if (pt_not (pt_val (pe_call cR.ok hr (by rfl) cR.g cR.kp cR.b .nil pass0 (pa_cons (pv 1) (pa_cons (pv 2) pa_nil))))) (pss_one ps_never) pss_nil)
      (pss_cons (ps_fld (pv 0) (pv 1) rfl) (pss_cons (ps_fld (pv 0) (pv 2) rfl) (pss_one (ps_fld (pv 0) pe_dnewK rfl)))), ?_⟩
    refine ⟨_, rfl, _, rfl, lo, hi, rfl, fun b hb => ⟨_, rfl, ?_⟩⟩
    have eb : b = true := hb.mpr hg
    subst eb
    refine iteF ?_
    refine ⟨_, rfl, _, rfl, x, C, dx, _, rfl, hx, T.cl, T.nl, (by show 0 < 1000; decide), ?_⟩
    refine ⟨_, rfl, _, rfl, x, C, dx, _, rfl, upd_same, T.cl, T.nh, (by show 1 < 1000; decide), ?_⟩
    refine fun d nd => ⟨_, rfl, x, C, dx, _, rfl, (by rw [upd_ne (ne_of_none upd_same nd)]; exact upd_same), T.cl, T.nd, (by show 2 < 1000; decide), ?_⟩
    have nxd : x ≠ d := ne_of_none upd_same nd
    have nd0 : H d = none := by
      rw [upd_ne (Ne.symm nxd), upd_ne (Ne.symm nxd)] at nd
      exact nd
    refine kk d _ nd0 (fun b o e hb => ?_) ⟨upd_same, ?_⟩
    · rw [upd_ne hb, upd_ne (ne_of_none e nd0), upd_ne hb, upd_ne hb]
      exact e
    · rw [upd_ne (Ne.symm nxd)]
      exact upd_same
theorem scNumTake : FnScope ["self", "number"] ["self"] (defScope sNumTake) := ⟨rfl, rfl, rfl, by decide +kernel, rfl, by decide +kernel, by decide +kernel⟩
theorem ok_numTake {f C fI CN fN : Addr} {fd fdN : FuncData} {k : Nat} (F : Fun K "take" "Numbers.take" sNumTake f fd) (T : NumT K mg C fI) (mr : mg "range" = none) (N : ExcC P w K mg base (k + 2) "NoNumber" CN fN fdN ["self"] (spIn0 K "nonumber")) : FnOk P w K mg base (L2.CX P w) (k + 4) f fd ["self"] (spNTake C CN) := by
  refine F.okX scNumTake (fun vs H Q E h => ?_) (fun cdv A outer s H vs Q E hr h => ?_)
  · obtain ⟨x, dx, d, lo, hi, us, rfl, _⟩ := h
    rfl
  · obtain ⟨x, dx, d, lo, hi, us, rfl, hN, hg, hul, hno, kk⟩ := h
    have hr3 : Room (k + 3) _ := hr
    have hu := hu_of hr
    refine ⟨_, pss_cons (PS.nox (ps_for PassesOwn.never rfl (pi_range2 (by rfl) mr (pa_cons (pe_fld (pv 0) rfl) (pa_cons (pe_op op_add (pe_fld (pv 0) rfl) pe_int) pa_nil))) (pg_name (i := 1) scNumTake.nd rfl (Or.inl rfl))
        (pss_one (ps_if (pt_cmp (pc_dnotin hu (pv 1) (pe_fld (pv 0) rfl))) (pss_cons (ps_dput hu (pe_fld (pv 0) rfl) (pv 1) pe_bl rfl) (pss_one (ps_ret (pv 1)))) pss_nil))))
      (pss_one (ps_raise rfl (takes_of rfl rfl rfl rfl) (pmk_oex0 N.t.oex N.t.iC N.t.tI N.ok hr3 N.b pass0 (by rfl) N.t.g))), ?_⟩
    obtain ⟨g1, g2, g3, g4⟩ := hg
    refine ⟨_, rfl, x, C, dx, _, _, rfl, hN.1, T.cl, T.nl, rfl, _, rfl, x, C, dx, _, _, rfl, hN.1, T.cl, T.nh, rfl, _, _, rfl, rfl, _, _, rfl, ⟨by omega, by omega, by omega, by omega⟩, ?_⟩
    have ew : (hi + 1 - lo).toNat = wide lo hi := rfl
    refine for_range (lo := lo) (n := wide lo hi) (fun i σ H' => ∃ y, σ = [some (.ref x), y] ∧ H' = H ∧ spare us i lo = []) ⟨_, rfl, rfl, rfl⟩ ?_ ?_
    · rintro i σ H2 hi' ⟨y, rfl, rfl, hs⟩
      refine ⟨_, rfl, _, rfl, x, C, dx, _, _, rfl, hN.1, T.cl, T.nd, rfl, d, _, rfl, DGet.k (k := Sum.inl (lo + i)) hN.2, _, rfl, ?_⟩
      have hsp := spare_add us i (wide lo hi - i) lo
      rw [show i + (wide lo hi - i) = wide lo hi by omega, hs, List.nil_append, show wide lo hi - i = (wide lo hi - i - 1) + 1 by omega, spare_s] at hsp
      by_cases c : lo + (i : Int) ∈ us
      · rw [held_in c]
        refine iteF ?_
        refine ⟨_, rfl, rfl, ?_⟩
        rw [spare_succ, hs, if_pos c]
        rfl
      · rw [held_no c]
        rw [if_neg c] at hsp
        refine iteT ?_
        refine ⟨_, rfl, x, C, dx, _, _, rfl, hN.1, T.cl, T.nd, rfl, _, rfl, d, _, rfl, DPut.k (k := Sum.inl (lo + i)) hN.2 (by unfold heldK; rw [List.length_map]; exact small1000 hul), ?_⟩
        rw [held_put c]
        exact ⟨_, rfl, kk _ _ hsp⟩
    · rintro σ H2 ⟨y, rfl, rfl, hs⟩
      refine ⟨(by show 0 ≤ 1000; decide), fun a na => ?_⟩
      have hX := hno hs
      refine ⟨a, CN, rfl, N.t.oex, N.t.word, upd_same, fun dx2 H3 nd ne k2 ha2 hd2 => ⟨rfl, dx2, _, ha2, hd2, ?_, ?_⟩⟩
      · rw [upd_ne ne] at nd
        exact nd
      · have nd0 : H2 dx2 = none := by rw [upd_ne ne] at nd; exact nd
        exact hX dx2 _ nd0 (raised_same na (fun b o e hb => k2 b o (by rw [upd_ne hb]; exact e) hb) nd0) upd_same
end
end K

namespace K
open PySem PySem.Spec PyProof.Rows L2
abbrev sSlpI : Stmt := inClass (top 2) 0
abbrev sMakeSlip : Stmt := top 6
def spSlpI (C : Addr) : Sp := fun vs H Q _ => ∃ (x dx : Addr) (n age : Int) (wh out pa : V), vs = [.ref x, .int n, wh, out, pa, .int age] ∧ H x = some (.ins C dx []) ∧
  ∀ (d : Addr) (H' : Hp), H d = none → Off [x] H H' → H' x = some (.ins C dx (slipF n wh out pa age "live" d)) → H' d = some (.dK []) → Q .non H'
section
variable {P : Program} {w : World} {K : PySem.W.Frag} {mg : Str → Option Value} {base : Heap}
theorem scSlpI : FnScope ["self", "number", "what", "out", "path", "age"] ["self", "number", "what", "out", "path", "age"] (defScope sSlpI) := ⟨rfl, rfl, rfl, by decide +kernel, rfl, by decide +kernel, by decide +kernel⟩
theorem ok_slpI {f C fI : Addr} {fd : FuncData} {k : Nat} (F : Fun K "__init__" "Slip.__init__" sSlpI f fd) (T : ClsT K mg "Slip" C fI slipFs) : FnOk P w K mg base CX0 (k + 1) f fd ["self", "number", "what", "out", "path", "age"] (spSlpI C) := by
  refine F.ok scSlpI (fun vs H Q E h => ?_) (fun cdv A outer s H vs Q E hr h => ?_)
  · obtain ⟨x, dx, n, age, wh, out, pa, rfl, _⟩ := h
    rfl
  · obtain ⟨x, dx, n, age, wh, out, pa, rfl, hx, kk⟩ := h
    refine ⟨_, pss_cons (ps_fld (pv 0) (pv 1) rfl) (pss_cons (ps_fld (pv 0) (pv 2) rfl) (pss_cons (ps_fld (pv 0) (pv 3) rfl) (pss_cons (ps_fld (pv 0) (pv 4) rfl) (pss_cons (ps_fld (pv 0) (pv 5) rfl) (pss_cons (ps_fld (pv 0) pe_str rfl) (pss_one (ps_fld (pv 0) pe_dnewK rfl))))))), ?_⟩
    refine ⟨_, rfl, _, rfl, x, C, dx, _, rfl, hx, T.cl, T.na _ (by decide), (by show 0 < 1000; decide), ?_⟩
    refine ⟨_, rfl, _, rfl, x, C, dx, _, rfl, upd_same, T.cl, T.na _ (by decide), (by show 1 < 1000; decide), ?_⟩
    refine ⟨_, rfl, _, rfl, x, C, dx, _, rfl, upd_same, T.cl, T.na _ (by decide), (by show 2 < 1000; decide), ?_⟩
    refine ⟨_, rfl, _, rfl, x, C, dx, _, rfl, upd_same, T.cl, T.na _ (by decide), (by show 3 < 1000; decide), ?_⟩
    refine ⟨_, rfl, _, rfl, x, C, dx, _, rfl, upd_same, T.cl, T.na _ (by decide), (by show 4 < 1000; decide), ?_⟩
    refine ⟨_, rfl, x, C, dx, _, rfl, upd_same, T.cl, T.na _ (by decide), (by show 5 < 1000; decide), ?_⟩
    refine fun d nd => ⟨_, rfl, x, C, dx, _, rfl, (by rw [upd_ne (ne_of_none upd_same nd)]; exact upd_same), T.cl, T.na _ (by decide), (by show 6 < 1000; decide), ?_⟩
    have nxd : x ≠ d := ne_of_none upd_same nd
    have nd0 : H d = none := by
      repeat rw [upd_ne (Ne.symm nxd)] at nd
      exact nd
    refine kk d _ nd0 (fun b o e hb => ?_) upd_same (by rw [upd_ne (Ne.symm nxd)]; exact upd_same)
    have hb : b ≠ x := fun z => hb (by simp [z])
    rw [upd_ne hb, upd_ne (ne_of_none e nd0), upd_ne hb, upd_ne hb, upd_ne hb, upd_ne hb, upd_ne hb, upd_ne hb]
    exact e
theorem scMakeSlip : FnScope ["web", "home", "what", "out", "path", "holders", "slip", "holder"] ["web", "home", "what", "out", "path", "holders"] (defScope sMakeSlip) := ⟨rfl, rfl, rfl, by decide +kernel, rfl, by decide +kernel, by decide +kernel⟩
/-- a slip made without holders -/
def spMakeSlip (CW CH CN CS : Addr) : Sp := fun vs H Q _ => ∃ (wb dw hl b ml bo hm dh nu dn dhd sg wt st nw qu hs : Addr) (e nm lo hi j : Int) (us r : List Int) (kvs : List (Key × V)) (wh out pa : V),
  vs = [.ref wb, .ref hm, wh, out, pa, .ref hs] ∧ H wb = some (.ins CW dw (webF hl b ml bo e)) ∧ H hm = some (.ins CH dh (homeF nm nu sg wt st nw qu)) ∧ NumAt H CN nu dn dhd lo hi us ∧ goodR lo hi ∧ us.length ≤ 900 ∧ H st = some (.dK kvs) ∧ kvs.length ≤ 900 ∧
  H hs = some (.lst []) ∧ dhd ≠ st ∧ spare us (wide lo hi) lo = j :: r ∧
  ∀ (sl d dsl : Addr) (H' : Hp), H sl = none → H d = none → Off [wb, dhd, st] H H' → H' wb = some (.ins CW dw (webF hl b ml bo (e + 1))) → H' dhd = some (.dK (heldK (us ++ [j]))) → H' st = some (.dK (putK kvs (Sum.inl j) (.ref sl))) →
    H' sl = some (.ins CS dsl (slipF j wh out pa (e + 1) "live" d)) → H' d = some (.dK []) → Q (.ref sl) H'
theorem ok_makeSlip {f CW fW CH fH CN fN CS fS fT CE : Addr} {fd fdT fdS : FuncData} {k : Nat} (F : Fun K "make_slip" "make_slip" sMakeSlip f fd) (TW : ClsT K mg "Web" CW fW webFs) (TH : ClsT K mg "House" CH fH homeFs) (TN : NumT K mg CN fN) (TS : ClsT K mg "Slip" CS fS slipFs)
    (mT : Meth K CN "take" fT) (GT : FnOk P w K mg base (L2.CX P w) (k + 1) fT fdT ["self"] (spNTake CN CE)) (bT : Binds K fdT ["self"] []) (GI : FnOk P w K mg base CX0 k fS fdS ["self", "number", "what", "out", "path", "age"] (spSlpI CS)) (bI : Binds K fdS ["self", "number", "what", "out", "path", "age"] []) :
    FnOk P w K mg base CX0 (k + 2) f fd ["web", "home", "what", "out", "path", "holders"] (spMakeSlip CW CH CN CS) := by
  refine F.ok scMakeSlip (fun vs H Q E h => ?_) (fun cdv A outer s H vs Q E hr h => ?_)
  · obtain ⟨wb, dw, hl, b, ml, bo, hm, dh, nu, dn, dhd, sg, wt, st, nw, qu, hs, e, nm, lo, hi, j, us, r, kvs, wh, out, pa, rfl, _⟩ := h
    rfl
  · obtain ⟨wb, dw, hl, b, ml, bo, hm, dh, nu, dn, dhd, sg, wt, st, nw, qu, hs, e, nm, lo, hi, j, us, r, kvs, wh, out, pa, rfl, hw, hh, hN, hg, hul, hst, hkl, hhs, nds, hsp, kk⟩ := h
    have hu := hu_of hr
    refine ⟨_, pss_cons (ps_fldaug (pv 0) pe_int in_add)
      (pss_cons (ps_set (i := 6) scMakeSlip.nd rfl (.inl rfl) (pe_make TS.made GI hr (by rfl) TS.g bI .nil pass0 (pa_cons (pe_meth0 (pe_fld (pv 1) rfl) TN.cl mT (calm_fn GT) hr bT .nil pass0) (pa_cons (pv 2) (pa_cons (pv 3) (pa_cons (pv 4) (pa_cons (pe_fld (pv 0) rfl) pa_nil)))))))
      (pss_cons (ps_for PassesOwn.never rfl (pi_list (pv 5)) (pg_name (i := 7) scMakeSlip.nd rfl (Or.inl rfl)) (pss_one ps_never))
      (pss_cons (ps_dput hu (pe_fld (pv 1) rfl) (pe_fld (pv 6) rfl) (pv 6) rfl) (pss_one (ps_ret (pv 6)))))), ?_⟩
    refine ⟨_, rfl, wb, CW, dw, _, .int e, rfl, hw, TW.cl, TW.na _ (by decide), rfl, _, _, rfl, rfl, dw, _, hw, (by show 5 < 1000; decide), ?_⟩
    have hN1 := hN.1
    have hN2 := hN.2
    have nw_h : hm ≠ wb := ne_of hh hw (fun z => by injection z with _ _ z; injection z with z; injection z with z; cases z)
    have nw_n : nu ≠ wb := ne_of hN1 hw (fun z => by injection z with _ _ z; injection z with z; injection z with z; cases z)
    have nw_d : dhd ≠ wb := ne_of hN2 hw (fun z => by cases z)
    have nw_s : st ≠ wb := ne_of hst hw (fun z => by cases z)
    have nw_l : hs ≠ wb := ne_of hhs hw (fun z => by cases z)
    have nd_h : hm ≠ dhd := ne_of hh hN2 (fun z => by cases z)
    have nd_n : nu ≠ dhd := ne_of hN1 hN2 (fun z => by cases z)
    have nd_l : hs ≠ dhd := ne_of hhs hN2 (fun z => by cases z)
    have ns_h : hm ≠ st := ne_of hh hst (fun z => by cases z)
    have ep : putF "ever" (.int (e + 1)) (webF hl b ml bo e) = webF hl b ml bo (e + 1) := rfl
    show tSeq _ _ _ _ (upd H wb (.ins CW dw (putF "ever" (.int (e + 1)) (webF hl b ml bo e))))
    rw [ep]
    have oA : Off [wb] H (upd H wb (.ins CW dw (webF hl b ml bo (e + 1)))) := fun x o z nx => by rw [upd_ne (fun q => nx (by simp [q]))]; exact z
    have hwA : upd H wb (.ins CW dw (webF hl b ml bo (e + 1))) wb = some (.ins CW dw (webF hl b ml bo (e + 1))) := upd_same
    have freeA : ∀ x, upd H wb (.ins CW dw (webF hl b ml bo (e + 1))) x = none → H x = none := fun x z => by
      by_cases q : x = wb
      · rw [q, upd_same] at z; cases z
      · rw [upd_ne q] at z; exact z
    generalize upd H wb (.ins CW dw (webF hl b ml bo (e + 1))) = HA at *
    have one : ∀ {x o}, H x = some o → x ≠ wb → HA x = some o := fun z n => oA _ _ z (by simp [n])
    refine ⟨_, rfl, hm, CH, dh, _, .ref nu, rfl, one hh nw_h, TH.cl, TH.na _ (by decide), rfl, nu, dn, _, rfl, one hN1 nw_n, rfl, nu, dn, dhd, lo, hi, us, rfl, ⟨one hN1 nw_n, one hN2 nw_d⟩, hg, by omega, (fun z => by rw [hsp] at z; cases z), fun i r' hi' => ?_⟩
    rw [hsp] at hi'
    cases hi'
    have oB : Off [dhd] HA (upd HA dhd (.dK (heldK (us ++ [j])))) := fun x o z nx => by rw [upd_ne (fun q => nx (by simp [q]))]; exact z
    have hdB : upd HA dhd (.dK (heldK (us ++ [j]))) dhd = some (.dK (heldK (us ++ [j]))) := upd_same
    have freeB : ∀ x, upd HA dhd (.dK (heldK (us ++ [j]))) x = none → H x = none := fun x z => by
      by_cases q : x = dhd
      · rw [q, upd_same] at z; cases z
      · rw [upd_ne q] at z; exact freeA x z
    generalize upd HA dhd (.dK (heldK (us ++ [j]))) = HB at *
    have hwB : HB wb = some (.ins CW dw (webF hl b ml bo (e + 1))) := oB _ _ hwA (by simp [Ne.symm nw_d])
    have two : ∀ {x o}, H x = some o → x ≠ wb → x ≠ dhd → HB x = some o := fun z n n2 => oB _ _ (one z n) (by simp [n2])
    refine ⟨_, rfl, _, rfl, _, rfl, _, rfl, wb, CW, dw, _, .int (e + 1), rfl, hwB, TW.cl, TW.na _ (by decide), rfl, fun x dx nx ndx ne => ⟨x, dx, j, e + 1, wh, out, pa, rfl, upd_same, fun d HC nd oC hxC hdC => ⟨rfl, ?_⟩⟩⟩
    have oBC : ∀ y o, HB y = some o → HC y = some o := fun y o z => oC y o (by rw [upd_ne (ne_of_none z nx), upd_ne (ne_of_none z ndx)]; exact z) (by simp [ne_of_none z nx])
    have ndB : HB d = none := by
      have nxd : d ≠ x := fun q => by rw [q, upd_same] at nd; cases nd
      rw [upd_ne nxd] at nd
      by_cases q : d = dx
      · rw [q, upd_same] at nd; cases nd
      · rw [upd_ne q] at nd; exact nd
    have hhC : HC hm = some (.ins CH dh (homeF nm nu sg wt st nw qu)) := oBC _ _ (two hh nw_h nd_h)
    have hstC : HC st = some (.dK kvs) := oBC _ _ (two hst nw_s (Ne.symm nds))
    refine ⟨_, rfl, hs, rfl, ⟨_, SqL.of (oBC _ _ (two hhs nw_l nd_l))⟩, for_list (K := K) (a := hs) (xs := []) (fun i σ H' => σ = [some (.ref wb), some (.ref hm), some wh, some out, some pa, some (.ref hs), some (.ref x), none] ∧ H' = HC) ⟨rfl, rfl⟩ (fun i σ H' _ q => by rw [q.2]; exact SqL.of (oBC _ _ (two hhs nw_l nd_l))) (fun i y σ H' hy => by simp at hy) ?_⟩
    rintro σ H' ⟨rfl, rfl⟩
    refine ⟨_, rfl, _, rfl, hm, CH, dh, _, .ref st, rfl, hhC, TH.cl, TH.na _ (by decide), rfl, _, rfl, x, CS, dx, _, .int j, rfl, hxC, TS.cl, TS.na _ (by decide), rfl, st, _, rfl, DPut.k (k := Sum.inl j) hstC (small1000 (by omega)), _, rfl, ?_⟩
    have nst : x ≠ st := fun q => by rw [q] at nx; rw [two hst nw_s (Ne.symm nds)] at nx; cases nx
    have ndst : d ≠ st := fun q => by rw [q] at ndB; rw [two hst nw_s (Ne.symm nds)] at ndB; cases ndB
    refine kk x d dx _ (freeB x nx) (freeB d ndB) (fun y o z ny => ?_) ?_ ?_ upd_same ?_ ?_
    · have n1 : y ≠ wb := fun q => ny (by simp [q])
      have n2 : y ≠ dhd := fun q => ny (by simp [q])
      have n3 : y ≠ st := fun q => ny (by simp [q])
      rw [upd_ne n3]
      exact oBC _ _ (two z n1 n2)
    · rw [upd_ne (Ne.symm nw_s)]
      exact oBC _ _ hwB
    · rw [upd_ne nds]
      exact oBC _ _ hdB
    · rw [upd_ne nst]
      exact hxC
    · rw [upd_ne ndst]
      exact hdC
end
end K

namespace K
open PySem PySem.Spec PyProof.Rows L2
abbrev sHouseI : Stmt := inClass (top 56) 0
def spHouseI (CH CN : Addr) : Sp := fun vs H Q _ => ∃ (x dx : Addr) (nm lo hi : Int) (n : Nat), vs = [.ref x, .int nm, .int lo, .int hi, .int (n : Nat)] ∧ H x = some (.ins CH dx []) ∧ goodR lo hi ∧ n ≤ 8 ∧
  ∀ (a : HomeA) (H' : Hp), a.x = x → a.dx = dx → Off [x] H H' → (∀ y ∈ a.ds ++ a.ls, H y = none) → a.ds.Nodup → HomeAt H' CH CN a nm lo hi n [] [] → Q .non H'
theorem rep_nons (n : Nat) : (List.replicate n [V.non]).flatten = List.replicate n .non := by
  induction n with
  | zero => rfl
  | succ n ih => rw [List.replicate_succ, List.replicate_succ, List.flatten_cons, ih]; rfl
section
variable {P : Program} {w : World} {K : PySem.W.Frag} {mg : Str → Option Value} {base : Heap}
theorem scHouseI : FnScope ["self", "name", "low", "high", "many"] ["self", "name", "low", "high", "many"] (defScope sHouseI) := ⟨rfl, rfl, rfl, by decide +kernel, rfl, by decide +kernel, by decide +kernel⟩
theorem ok_houseI {f CH fH CN fN : Addr} {fd fdN : FuncData} {k : Nat} (F : Fun K "__init__" "House.__init__" sHouseI f fd) (TH : ClsT K mg "House" CH fH homeFs) (TN : NumT K mg CN fN) (GN : FnOk P w K mg base CX0 k fN fdN ["self", "low", "high"] (spNumI CN)) (bN : Binds K fdN ["self", "low", "high"] []) :
    FnOk P w K mg base CX0 (k + 2) f fd ["self", "name", "low", "high", "many"] (spHouseI CH CN) := by
  refine F.ok scHouseI (fun vs H Q E h => ?_) (fun cdv A outer s H vs Q E hr h => ?_)
  · obtain ⟨x, dx, nm, lo, hi, n, rfl, _⟩ := h
    rfl
  · obtain ⟨x, dx, nm, lo, hi, n, rfl, hx, hg, hn, kk⟩ := h
    refine ⟨_, pss_cons (ps_fld (pv 0) (pv 1) rfl) (pss_cons (ps_fld (pv 0) (pe_make TN.made GN hr (by rfl) TN.g bN .nil pass0 (pa_cons (pv 2) (pa_cons (pv 3) pa_nil))) rfl)
      (pss_cons (ps_fld (pv 0) (pe_lst pa_nil) rfl) (pss_cons (ps_fld (pv 0) (pe_op op_rep (pe_lst (pa_cons pe_non pa_nil)) (pv 4)) rfl) (pss_cons (ps_fld (pv 0) pe_dnewK rfl) (pss_cons (ps_fld (pv 0) pe_dnewK rfl) (pss_cons (ps_fld (pv 0) (pe_lst pa_nil) rfl) (pss_one (ps_fld (pv 0) pe_bl rfl)))))))), ?_⟩
    refine ⟨_, rfl, _, rfl, x, CH, dx, _, rfl, hx, TH.cl, TH.na _ (by decide), (by show 0 < 1000; decide), ?_⟩
    have o1 : Off [x] H (upd H x (.ins CH dx [("name", .int nm)])) := Off.put (fun b u e _ => e)
    have x1 : upd H x (.ins CH dx [("name", .int nm)]) x = some (.ins CH dx [("name", .int nm)]) := upd_same
    show tSeq _ _ _ _ (upd H x (.ins CH dx [("name", .int nm)]))
    generalize upd H x (.ins CH dx [("name", .int nm)]) = H1 at *
    refine ⟨_, rfl, _, rfl, fun nu dn nnu ndn ndd => ⟨nu, dn, lo, hi, rfl, upd_same, hg, fun d H2 nd k2 hN2 => ⟨rfl, ?_⟩⟩⟩
    have k12 : Same H1 H2 := fun b o e => k2 b o (by rw [upd_ne (ne_of_none e nnu), upd_ne (ne_of_none e ndn)]; exact e) (ne_of_none e nnu)
    have nd1 : H1 d = none := by
      have q1 : d ≠ nu := fun q => by rw [q, upd_same] at nd; cases nd
      rw [upd_ne q1] at nd
      by_cases q : d = dn
      · rw [q, upd_same] at nd; cases nd
      · rw [upd_ne q] at nd; exact nd
    have x2 := k12 _ _ x1
    have o2 : Off [x] H H2 := fun b u e nb => k12 _ _ (o1 b u e nb)
    have f2 : H d = none ∧ d ≠ x := o1.fresh x1 nd1
    refine ⟨_, rfl, x, CH, dx, _, rfl, x2, TH.cl, TH.na _ (by decide), (by show 1 < 1000; decide), ?_⟩
    have q_nu : nu ≠ x := (o1.fresh x1 nnu).2
    have q_d : d ≠ x := f2.2
    have n1 := hN2.1
    have n2 := hN2.2
    show tSeq _ _ _ _ (upd H2 x (.ins CH dx [("name", .int nm), ("numbers", .ref nu)]))
    have x3 : upd H2 x (.ins CH dx [("name", .int nm), ("numbers", .ref nu)]) x = some (.ins CH dx [("name", .int nm), ("numbers", .ref nu)]) := upd_same
    have o3 : Off [x] H (upd H2 x (.ins CH dx [("name", .int nm), ("numbers", .ref nu)])) := o2.put
    have n1 := (upd_ne (H := H2) (o := .ins CH dx [("name", .int nm), ("numbers", .ref nu)]) q_nu).trans n1
    have n2 := (upd_ne (H := H2) (o := .ins CH dx [("name", .int nm), ("numbers", .ref nu)]) q_d).trans n2
    generalize upd H2 x (.ins CH dx [("name", .int nm), ("numbers", .ref nu)]) = H3 at *
    refine ⟨(by show 0 ≤ sizeLine; decide), fun sg n_sg => ⟨_, rfl, x, CH, dx, _, rfl, (by rw [upd_ne (ne_of_none x3 n_sg)]; exact x3), TH.cl, TH.na _ (by decide), (by show 2 < 1000; decide), ?_⟩⟩
    have q_sg := o3.fresh x3 n_sg
    show tSeq _ _ _ _ (upd (upd H3 sg (.lst [])) x (.ins CH dx [("name", .int nm), ("numbers", .ref nu), ("sight", .ref sg)]))
    have x4 : upd (upd H3 sg (.lst [])) x (.ins CH dx [("name", .int nm), ("numbers", .ref nu), ("sight", .ref sg)]) x = some (.ins CH dx [("name", .int nm), ("numbers", .ref nu), ("sight", .ref sg)]) := upd_same
    have o4 : Off [x] H (upd (upd H3 sg (.lst [])) x (.ins CH dx [("name", .int nm), ("numbers", .ref nu), ("sight", .ref sg)])) := (o3.new n_sg).put
    have ne_n1_sg := ne_of_none n1 n_sg
    have n1 := (upd_ne (H := upd H3 sg (.lst [])) (o := .ins CH dx [("name", .int nm), ("numbers", .ref nu), ("sight", .ref sg)]) q_nu).trans ((upd_ne (o := (.lst [])) ne_n1_sg).trans n1)
    have ne_n2_sg := ne_of_none n2 n_sg
    have n2 := (upd_ne (H := upd H3 sg (.lst [])) (o := .ins CH dx [("name", .int nm), ("numbers", .ref nu), ("sight", .ref sg)]) q_d).trans ((upd_ne (o := (.lst [])) ne_n2_sg).trans n2)
    have n3 : upd (upd H3 sg (.lst [])) x (.ins CH dx [("name", .int nm), ("numbers", .ref nu), ("sight", .ref sg)]) sg = some (.lst []) := by rw [upd_ne q_sg.2]; exact upd_same
    generalize upd (upd H3 sg (.lst [])) x (.ins CH dx [("name", .int nm), ("numbers", .ref nu), ("sight", .ref sg)]) = H4 at *
    refine ⟨(by show 1 ≤ sizeLine; decide), fun l nl => ?_⟩
    refine ⟨_, rfl, l, n, _, rfl, rfl, upd_same, by omega, by omega, ?_, fun wt n_wt => ?_⟩
    · rw [Int.toNat_natCast]
      exact Nat.le_of_lt (small1000 (by show 1 * n ≤ 1000; omega))
    rw [Int.toNat_natCast, rep_nons]
    have ol := o4.new (o := .lst [.non]) nl
    have xl : upd H4 l (.lst [.non]) x = some (.ins CH dx [("name", .int nm), ("numbers", .ref nu), ("sight", .ref sg)]) := by rw [upd_ne (ne_of_none x4 nl)]; exact x4
    have n1 := (upd_ne (o := .lst [.non]) (ne_of_none n1 nl)).trans n1
    have n2 := (upd_ne (o := .lst [.non]) (ne_of_none n2 nl)).trans n2
    have n3 := (upd_ne (o := .lst [.non]) (ne_of_none n3 nl)).trans n3
    generalize upd H4 l (.lst [.non]) = Hl at *
    refine ⟨_, rfl, x, CH, dx, _, rfl, (by rw [upd_ne (ne_of_none xl n_wt)]; exact xl), TH.cl, TH.na _ (by decide), (by show 3 < 1000; decide), ?_⟩
    have q_wt := ol.fresh xl n_wt
    show tSeq _ _ _ _ (upd (upd Hl wt (.lst (List.replicate n .non))) x (.ins CH dx [("name", .int nm), ("numbers", .ref nu), ("sight", .ref sg), ("wants", .ref wt)]))
    have x5 : upd (upd Hl wt (.lst (List.replicate n .non))) x (.ins CH dx [("name", .int nm), ("numbers", .ref nu), ("sight", .ref sg), ("wants", .ref wt)]) x = some (.ins CH dx [("name", .int nm), ("numbers", .ref nu), ("sight", .ref sg), ("wants", .ref wt)]) := upd_same
    have o5 : Off [x] H (upd (upd Hl wt (.lst (List.replicate n .non))) x (.ins CH dx [("name", .int nm), ("numbers", .ref nu), ("sight", .ref sg), ("wants", .ref wt)])) := (ol.new n_wt).put
    have ne_n1_wt := ne_of_none n1 n_wt
    have n1 := (upd_ne (H := upd Hl wt (.lst (List.replicate n .non))) (o := .ins CH dx [("name", .int nm), ("numbers", .ref nu), ("sight", .ref sg), ("wants", .ref wt)]) q_nu).trans ((upd_ne (o := (.lst (List.replicate n .non))) ne_n1_wt).trans n1)
    have ne_n2_wt := ne_of_none n2 n_wt
    have n2 := (upd_ne (H := upd Hl wt (.lst (List.replicate n .non))) (o := .ins CH dx [("name", .int nm), ("numbers", .ref nu), ("sight", .ref sg), ("wants", .ref wt)]) q_d).trans ((upd_ne (o := (.lst (List.replicate n .non))) ne_n2_wt).trans n2)
    have ne_n3_wt := ne_of_none n3 n_wt
    have n3 := (upd_ne (H := upd Hl wt (.lst (List.replicate n .non))) (o := .ins CH dx [("name", .int nm), ("numbers", .ref nu), ("sight", .ref sg), ("wants", .ref wt)]) q_sg.2).trans ((upd_ne (o := (.lst (List.replicate n .non))) ne_n3_wt).trans n3)
    have n4 : upd (upd Hl wt (.lst (List.replicate n .non))) x (.ins CH dx [("name", .int nm), ("numbers", .ref nu), ("sight", .ref sg), ("wants", .ref wt)]) wt = some (.lst (List.replicate n .non)) := by rw [upd_ne q_wt.2]; exact upd_same
    generalize upd (upd Hl wt (.lst (List.replicate n .non))) x (.ins CH dx [("name", .int nm), ("numbers", .ref nu), ("sight", .ref sg), ("wants", .ref wt)]) = H5 at *
    refine fun st n_st => ⟨_, rfl, x, CH, dx, _, rfl, (by rw [upd_ne (ne_of_none x5 n_st)]; exact x5), TH.cl, TH.na _ (by decide), (by show 4 < 1000; decide), ?_⟩
    have q_st := o5.fresh x5 n_st
    show tSeq _ _ _ _ (upd (upd H5 st (.dK [])) x (.ins CH dx [("name", .int nm), ("numbers", .ref nu), ("sight", .ref sg), ("wants", .ref wt), ("stands", .ref st)]))
    have x6 : upd (upd H5 st (.dK [])) x (.ins CH dx [("name", .int nm), ("numbers", .ref nu), ("sight", .ref sg), ("wants", .ref wt), ("stands", .ref st)]) x = some (.ins CH dx [("name", .int nm), ("numbers", .ref nu), ("sight", .ref sg), ("wants", .ref wt), ("stands", .ref st)]) := upd_same
    have o6 : Off [x] H (upd (upd H5 st (.dK [])) x (.ins CH dx [("name", .int nm), ("numbers", .ref nu), ("sight", .ref sg), ("wants", .ref wt), ("stands", .ref st)])) := (o5.new n_st).put
    have ne_n1_st := ne_of_none n1 n_st
    have n1 := (upd_ne (H := upd H5 st (.dK [])) (o := .ins CH dx [("name", .int nm), ("numbers", .ref nu), ("sight", .ref sg), ("wants", .ref wt), ("stands", .ref st)]) q_nu).trans ((upd_ne (o := (.dK [])) ne_n1_st).trans n1)
    have ne_n2_st := ne_of_none n2 n_st
    have n2 := (upd_ne (H := upd H5 st (.dK [])) (o := .ins CH dx [("name", .int nm), ("numbers", .ref nu), ("sight", .ref sg), ("wants", .ref wt), ("stands", .ref st)]) q_d).trans ((upd_ne (o := (.dK [])) ne_n2_st).trans n2)
    have ne_n3_st := ne_of_none n3 n_st
    have n3 := (upd_ne (H := upd H5 st (.dK [])) (o := .ins CH dx [("name", .int nm), ("numbers", .ref nu), ("sight", .ref sg), ("wants", .ref wt), ("stands", .ref st)]) q_sg.2).trans ((upd_ne (o := (.dK [])) ne_n3_st).trans n3)
    have ne_n4_st := ne_of_none n4 n_st
    have n4 := (upd_ne (H := upd H5 st (.dK [])) (o := .ins CH dx [("name", .int nm), ("numbers", .ref nu), ("sight", .ref sg), ("wants", .ref wt), ("stands", .ref st)]) q_wt.2).trans ((upd_ne (o := (.dK [])) ne_n4_st).trans n4)
    have n5 : upd (upd H5 st (.dK [])) x (.ins CH dx [("name", .int nm), ("numbers", .ref nu), ("sight", .ref sg), ("wants", .ref wt), ("stands", .ref st)]) st = some (.dK []) := by rw [upd_ne q_st.2]; exact upd_same
    generalize upd (upd H5 st (.dK [])) x (.ins CH dx [("name", .int nm), ("numbers", .ref nu), ("sight", .ref sg), ("wants", .ref wt), ("stands", .ref st)]) = H6 at *
    refine fun nw n_nw => ⟨_, rfl, x, CH, dx, _, rfl, (by rw [upd_ne (ne_of_none x6 n_nw)]; exact x6), TH.cl, TH.na _ (by decide), (by show 5 < 1000; decide), ?_⟩
    have q_nw := o6.fresh x6 n_nw
    show tSeq _ _ _ _ (upd (upd H6 nw (.dK [])) x (.ins CH dx [("name", .int nm), ("numbers", .ref nu), ("sight", .ref sg), ("wants", .ref wt), ("stands", .ref st), ("news", .ref nw)]))
    have x7 : upd (upd H6 nw (.dK [])) x (.ins CH dx [("name", .int nm), ("numbers", .ref nu), ("sight", .ref sg), ("wants", .ref wt), ("stands", .ref st), ("news", .ref nw)]) x = some (.ins CH dx [("name", .int nm), ("numbers", .ref nu), ("sight", .ref sg), ("wants", .ref wt), ("stands", .ref st), ("news", .ref nw)]) := upd_same
    have o7 : Off [x] H (upd (upd H6 nw (.dK [])) x (.ins CH dx [("name", .int nm), ("numbers", .ref nu), ("sight", .ref sg), ("wants", .ref wt), ("stands", .ref st), ("news", .ref nw)])) := (o6.new n_nw).put
    have ne_n1_nw := ne_of_none n1 n_nw
    have n1 := (upd_ne (H := upd H6 nw (.dK [])) (o := .ins CH dx [("name", .int nm), ("numbers", .ref nu), ("sight", .ref sg), ("wants", .ref wt), ("stands", .ref st), ("news", .ref nw)]) q_nu).trans ((upd_ne (o := (.dK [])) ne_n1_nw).trans n1)
    have ne_n2_nw := ne_of_none n2 n_nw
    have n2 := (upd_ne (H := upd H6 nw (.dK [])) (o := .ins CH dx [("name", .int nm), ("numbers", .ref nu), ("sight", .ref sg), ("wants", .ref wt), ("stands", .ref st), ("news", .ref nw)]) q_d).trans ((upd_ne (o := (.dK [])) ne_n2_nw).trans n2)
    have ne_n3_nw := ne_of_none n3 n_nw
    have n3 := (upd_ne (H := upd H6 nw (.dK [])) (o := .ins CH dx [("name", .int nm), ("numbers", .ref nu), ("sight", .ref sg), ("wants", .ref wt), ("stands", .ref st), ("news", .ref nw)]) q_sg.2).trans ((upd_ne (o := (.dK [])) ne_n3_nw).trans n3)
    have ne_n4_nw := ne_of_none n4 n_nw
    have n4 := (upd_ne (H := upd H6 nw (.dK [])) (o := .ins CH dx [("name", .int nm), ("numbers", .ref nu), ("sight", .ref sg), ("wants", .ref wt), ("stands", .ref st), ("news", .ref nw)]) q_wt.2).trans ((upd_ne (o := (.dK [])) ne_n4_nw).trans n4)
    have ne_n5_nw := ne_of_none n5 n_nw
    have n5 := (upd_ne (H := upd H6 nw (.dK [])) (o := .ins CH dx [("name", .int nm), ("numbers", .ref nu), ("sight", .ref sg), ("wants", .ref wt), ("stands", .ref st), ("news", .ref nw)]) q_st.2).trans ((upd_ne (o := (.dK [])) ne_n5_nw).trans n5)
    have n6 : upd (upd H6 nw (.dK [])) x (.ins CH dx [("name", .int nm), ("numbers", .ref nu), ("sight", .ref sg), ("wants", .ref wt), ("stands", .ref st), ("news", .ref nw)]) nw = some (.dK []) := by rw [upd_ne q_nw.2]; exact upd_same
    generalize upd (upd H6 nw (.dK [])) x (.ins CH dx [("name", .int nm), ("numbers", .ref nu), ("sight", .ref sg), ("wants", .ref wt), ("stands", .ref st), ("news", .ref nw)]) = H7 at *
    refine ⟨(by show 0 ≤ sizeLine; decide), fun qu n_qu => ⟨_, rfl, x, CH, dx, _, rfl, (by rw [upd_ne (ne_of_none x7 n_qu)]; exact x7), TH.cl, TH.na _ (by decide), (by show 6 < 1000; decide), ?_⟩⟩
    have q_qu := o7.fresh x7 n_qu
    show tSeq _ _ _ _ (upd (upd H7 qu (.lst [])) x (.ins CH dx [("name", .int nm), ("numbers", .ref nu), ("sight", .ref sg), ("wants", .ref wt), ("stands", .ref st), ("news", .ref nw), ("queue", .ref qu)]))
    have x8 : upd (upd H7 qu (.lst [])) x (.ins CH dx [("name", .int nm), ("numbers", .ref nu), ("sight", .ref sg), ("wants", .ref wt), ("stands", .ref st), ("news", .ref nw), ("queue", .ref qu)]) x = some (.ins CH dx [("name", .int nm), ("numbers", .ref nu), ("sight", .ref sg), ("wants", .ref wt), ("stands", .ref st), ("news", .ref nw), ("queue", .ref qu)]) := upd_same
    have o8 : Off [x] H (upd (upd H7 qu (.lst [])) x (.ins CH dx [("name", .int nm), ("numbers", .ref nu), ("sight", .ref sg), ("wants", .ref wt), ("stands", .ref st), ("news", .ref nw), ("queue", .ref qu)])) := (o7.new n_qu).put
    have ne_n1_qu := ne_of_none n1 n_qu
    have n1 := (upd_ne (H := upd H7 qu (.lst [])) (o := .ins CH dx [("name", .int nm), ("numbers", .ref nu), ("sight", .ref sg), ("wants", .ref wt), ("stands", .ref st), ("news", .ref nw), ("queue", .ref qu)]) q_nu).trans ((upd_ne (o := (.lst [])) ne_n1_qu).trans n1)
    have ne_n2_qu := ne_of_none n2 n_qu
    have n2 := (upd_ne (H := upd H7 qu (.lst [])) (o := .ins CH dx [("name", .int nm), ("numbers", .ref nu), ("sight", .ref sg), ("wants", .ref wt), ("stands", .ref st), ("news", .ref nw), ("queue", .ref qu)]) q_d).trans ((upd_ne (o := (.lst [])) ne_n2_qu).trans n2)
    have ne_n3_qu := ne_of_none n3 n_qu
    have n3 := (upd_ne (H := upd H7 qu (.lst [])) (o := .ins CH dx [("name", .int nm), ("numbers", .ref nu), ("sight", .ref sg), ("wants", .ref wt), ("stands", .ref st), ("news", .ref nw), ("queue", .ref qu)]) q_sg.2).trans ((upd_ne (o := (.lst [])) ne_n3_qu).trans n3)
    have ne_n4_qu := ne_of_none n4 n_qu
    have n4 := (upd_ne (H := upd H7 qu (.lst [])) (o := .ins CH dx [("name", .int nm), ("numbers", .ref nu), ("sight", .ref sg), ("wants", .ref wt), ("stands", .ref st), ("news", .ref nw), ("queue", .ref qu)]) q_wt.2).trans ((upd_ne (o := (.lst [])) ne_n4_qu).trans n4)
    have ne_n5_qu := ne_of_none n5 n_qu
    have n5 := (upd_ne (H := upd H7 qu (.lst [])) (o := .ins CH dx [("name", .int nm), ("numbers", .ref nu), ("sight", .ref sg), ("wants", .ref wt), ("stands", .ref st), ("news", .ref nw), ("queue", .ref qu)]) q_st.2).trans ((upd_ne (o := (.lst [])) ne_n5_qu).trans n5)
    have ne_n6_qu := ne_of_none n6 n_qu
    have n6 := (upd_ne (H := upd H7 qu (.lst [])) (o := .ins CH dx [("name", .int nm), ("numbers", .ref nu), ("sight", .ref sg), ("wants", .ref wt), ("stands", .ref st), ("news", .ref nw), ("queue", .ref qu)]) q_nw.2).trans ((upd_ne (o := (.lst [])) ne_n6_qu).trans n6)
    have n7 : upd (upd H7 qu (.lst [])) x (.ins CH dx [("name", .int nm), ("numbers", .ref nu), ("sight", .ref sg), ("wants", .ref wt), ("stands", .ref st), ("news", .ref nw), ("queue", .ref qu)]) qu = some (.lst []) := by rw [upd_ne q_qu.2]; exact upd_same
    generalize upd (upd H7 qu (.lst [])) x (.ins CH dx [("name", .int nm), ("numbers", .ref nu), ("sight", .ref sg), ("wants", .ref wt), ("stands", .ref st), ("news", .ref nw), ("queue", .ref qu)]) = H8 at *
    refine ⟨_, rfl, x, CH, dx, _, rfl, x8, TH.cl, TH.na _ (by decide), (by show 7 < 1000; decide), ?_⟩
    show Q .non (upd H8 x (.ins CH dx (homeF nm nu sg wt st nw qu)))
    refine kk ⟨x, dx, nu, dn, d, sg, wt, st, nw, qu⟩ _ rfl rfl o8.put (fun y hy => ?_) ?_ ⟨upd_same, ⟨?_, ?_⟩, ?_, ?_, ?_, ?_, ?_⟩
    · simp only [HomeA.ds, HomeA.ls, List.mem_append, List.mem_cons, List.not_mem_nil, or_false] at hy
      rcases hy with (rfl | rfl | rfl) | (rfl | rfl | rfl)
      · exact f2.1
      · exact q_st.1
      · exact q_nw.1
      · exact q_sg.1
      · exact q_wt.1
      · exact q_qu.1
    · simp only [HomeA.ds, List.nodup_cons, List.mem_cons, List.not_mem_nil, or_false, not_or, not_false_eq_true, List.nodup_nil, and_true]
      exact ⟨⟨ne_n2_st, ne_n2_nw⟩, ne_n5_nw⟩
    · exact (upd_ne q_nu).trans n1
    · exact (upd_ne q_d).trans n2
    · exact (upd_ne q_sg.2).trans n3
    · exact (upd_ne q_wt.2).trans n4
    · exact (upd_ne q_st.2).trans n5
    · exact (upd_ne q_nw.2).trans n6
    · exact (upd_ne q_qu.2).trans n7
end
end K

namespace K
open PySem PySem.Spec PyProof.Rows L2
abbrev sW_init : Stmt := inClass (top 62) 0
/-- its dicts are apart -/
structure Sep (a : WebA) : Prop where
  bm : a.b ≠ a.ml
  bb : a.b ≠ a.bo
  mb : a.ml ≠ a.bo
  ds : ∀ h ∈ a.hs, a.b ∉ h.ds ∧ a.ml ∉ h.ds ∧ a.bo ∉ h.ds
  td : ∀ s ∈ a.ss, (∀ h ∈ a.hs, s.td ∉ h.ds) ∧ s.td ≠ a.b ∧ s.td ≠ a.ml ∧ s.td ≠ a.bo
def spWebI (c : WebC) (CM : Addr) : Sp := fun vs H Q E => ∃ (x dx rl : Addr) (rs : List (Int × Int)), vs = [.ref x, .ref rl] ∧ H x = some (.ins c.W dx []) ∧ RangesAt H rl rs ∧ (∀ r ∈ rs, goodR r.1 r.2) ∧ rs.length ≤ 1000 ∧
  (rs.length = 0 ∨ 9 ≤ rs.length → TooMX CM 8 H E) ∧ (1 ≤ rs.length ∧ rs.length ≤ 8 → ∀ (a : WebA) (H' : Hp), a.x = x → Off [x] H H' → Fresh H' c a rs → Sep a → H a.hl = none → (∀ h ∈ a.hs, ∀ y ∈ h.ls, H y = none) → Q .non H')
section
variable {P : Program} {w : World} {K : PySem.W.Frag} {mg : Str → Option Value} {base : Heap}
theorem scWebI : FnScope ["self", "ranges", "name", "low", "high", "home"] ["self", "ranges"] (defScope sW_init) := ⟨rfl, rfl, rfl, by decide +kernel, rfl, by decide +kernel, by decide +kernel⟩
theorem ok_webI {f fW fH fM fMS CM : Addr} {c : WebC} {fd fdH fdM fdMS : FuncData} {k : Nat} {tk : Tok} (F : Fun K "__init__" "Web.__init__" sW_init f fd) (T : BT mg) (TW : ClsT K mg "Web" c.W fW webFs) (TH : ClsT K mg "House" c.H fH homeFs) (g8 : mg "MOST_HOUSES" = some (.int 8 tk)) (hCW : c.W ≠ c.H ∧ c.W ≠ c.N ∧ c.W ≠ c.S)
    (M : ExcC P w K mg base (k + 2) "TooMany" CM fM fdM ["self", "bound"] (spIn1 K "bound" "toomany" askInt gotSame)) (fl : PySem.W.findIn K (.ref CM) "bound" = some none) (GH : FnOk P w K mg base CX0 (k + 2) fH fdH ["self", "name", "low", "high", "many"] (spHouseI c.H c.N)) (bH : Binds K fdH ["self", "name", "low", "high", "many"] [])
    (cmake_slip : Cal P w K mg base (k + 3) "make_slip" fMS fdMS ["web", "home", "what", "out", "path", "holders"] (spMakeSlip c.W c.H c.N c.S)) :
    FnOk P w K mg base (L2.CX P w) (k + 4) f fd ["self", "ranges"] (spWebI c CM) := by
  refine F.okX scWebI (fun vs H Q E h => ?_) (fun cdv A outer s H vs Q E hr h => ?_)
  · obtain ⟨x, dx, rl, rs, rfl, _⟩ := h
    rfl
  · obtain ⟨x, dx, rl, rs, rfl, hx, ⟨ts, hrl, hts⟩, hgs, hrn, hbad, kk⟩ := h
    have hr3 : Room (k + 3) _ := hr
    refine ⟨_, pss_cons (ps_if (pt_not (pt_chain op_le op_le pe_int (pe_callB call_len_seq (by rfl) T.len PySem.boot_len (pa_cons (pv 1) pa_nil)) (pe_glob (v := .int 8) (by rfl) g8 ⟨_, rfl⟩))) (pss_one (ps_raise rfl (takes_of rfl rfl rfl rfl) (pmk_oex M.t.oex M.t.iC M.t.tI M.ok hr3 M.b .nil pass0 (by rfl) M.t.g (pa_cons (pe_glob (v := .int 8) (by rfl) g8 ⟨_, rfl⟩) pa_nil)))) pss_nil)
      (PSs.nox (pss_cons (ps_fld (pv 0) (pe_lc (own := [("name", 2), ("low", 3), ("high", 4)]) (g := gTup K 2 (gCons (gName 2) (gCons (gTup K 2 (gCons (gName 3) (gCons (gName 4) gNil))) gNil))) (tt := tYes) rfl scWebI.nd (by exact (pi_enum (by rfl) T.enumerate (pa_cons (pv 1) pa_nil)))
        (blkOk_by (own := [("name", 2), ("low", 3), ("high", 4)]) (N := ["self", "ranges", "name", "low", "high", "home"]) (sc := defScope sW_init) (by decide +kernel)) (fun _ _ _ _ _ => by exact (pg_tup rfl (pgs_cons (pg_name (i := 2) scWebI.nd rfl (Or.inl rfl)) (pgs_cons (pg_tup rfl (pgs_cons (pg_name (i := 3) scWebI.nd rfl (Or.inl rfl)) (pgs_cons (pg_name (i := 4) scWebI.nd rfl (Or.inl rfl)) pgs_nil))) pgs_nil)))) (fun _ _ _ _ _ => by exact pts_nil)
        (fun _ _ _ _ _ => by exact (pe_make TH.made GH hr (by rfl) TH.g bH .nil pass0 (pa_cons (pv 2) (pa_cons (pv 3) (pa_cons (pv 4) (pa_cons (pe_callB (r := rLenK K) call_len_seq (by rfl) T.len PySem.boot_len (pa_cons (pv 1) pa_nil)) pa_nil))))))) rfl) (pss_cons (ps_fld (pv 0) pe_dnewK rfl) (pss_cons (ps_fld (pv 0) pe_dnewK rfl) (pss_cons (ps_fld (pv 0) pe_dnewK rfl) (pss_cons (ps_fld (pv 0) pe_int rfl)
      (pss_one (ps_for PassesOwn.never rfl (pi_list (pe_fld (pv 0) rfl)) (pg_name (i := 5) scWebI.nd rfl (Or.inl rfl)) (pss_one (ps_expr (pe_call cmake_slip.ok hr (by rfl) cmake_slip.g cmake_slip.kp cmake_slip.b .nil pass0
        (pa_cons (pv 0) (pa_cons (pv 5) (pa_cons (pe_tup (pa_cons pe_str (pa_cons (pe_fld (pv 5) rfl) pa_nil))) (pa_cons pe_non (pa_cons (pe_tup (pa_cons (pe_fld (pv 5) rfl) pa_nil)) (pa_cons (pe_lst pa_nil) pa_nil))))))))))))))))), ?_⟩
    have lts : ts.length = rs.length := paired_len hts
    refine ⟨_, rfl, rl, _, rfl, .inl (SqL.of hrl), _, _, rfl, rfl, _, rfl, ?_⟩
    rw [List.length_map, lts]
    have rz : (rs.length = 0 ∨ 9 ≤ rs.length) → tMkO CM (spIn1 K "bound" "toomany" askInt gotSame) [] (tCons (tC (.int 8)) tNil) (L2.start ["self", "ranges", "name", "low", "high", "home"] [V.ref x, V.ref rl]) H fun cls d H' => E cls d H' := fun hb => by
      have hX := hbad hb
      refine ⟨(by show 1 ≤ 1000; decide), fun a na => ?_⟩
      refine ⟨a, CM, _, rfl, ⟨8, rfl, by decide⟩, M.t.oex, M.t.word, fl, upd_same, fun dx2 v' H2 nd ne k2 ha2 hd2 hv => ⟨rfl, dx2, _, ha2, hd2, ?_, ?_⟩⟩
      · rw [upd_ne ne] at nd
        exact nd
      · have nd0 : H dx2 = none := by rw [upd_ne ne] at nd; exact nd
        have hv : v' = .int 8 := hv
        subst hv
        exact hX dx2 _ nd0 (raised_same na (fun b o e hb => k2 b o (by rw [upd_ne hb]; exact e) hb) nd0) upd_same
    by_cases c1 : ¬ 1 ≤ rs.length
    · refine ifF0 (decide_eq_false (fun z => c1 (by omega))) ?_
      exact ⟨_, rfl, iteT (rz (by omega))⟩
    have c1 : 1 ≤ rs.length := by omega
    refine ifT0 (decide_eq_true (by omega)) ⟨_, _, rfl, rfl, _, rfl, ?_⟩
    by_cases c8 : ¬ rs.length ≤ 8
    · refine ifT0 ?_ (rz (by omega))
      rw [decide_eq_false (fun z : (rs.length : Int) ≤ 8 => c8 (by omega))]
      rfl
    have c8 : rs.length ≤ 8 := by omega
    refine ifF0 (by rw [decide_eq_true (show (rs.length : Int) ≤ 8 by omega)]; rfl) ?_
    have kk := kk ⟨c1, c8⟩
    refine ⟨_, rfl, rl, _, rfl, SqL.of hrl, fun D nD => ?_⟩
    refine lc_enum (K := K) (a := rl) (xs := ts.map V.ref) (fun j Hj => Same H Hj ∧ ∃ hs : List HomeA, hs.length = j ∧ Hj D = some (.lst (hs.map fun h => V.ref h.x)) ∧ (hs.flatMap HomeA.ds).Nodup ∧ (∀ h ∈ hs, D ∉ h.ls) ∧ (∀ y ∈ hs.flatMap HomeA.ds, H y = none) ∧ (∀ h ∈ hs, ∀ y ∈ h.ls, H y = none) ∧
        ∀ (i : Nat) h r, hs[i]? = some h → rs[i]? = some r → HomeAt Hj c.H c.N h (i : Nat) r.1 r.2 rs.length [] [])
      ⟨same_upd nD, [], rfl, upd_same, List.nodup_nil, (fun h m => by cases m), (fun y m => by cases m), (fun h m => by cases m), fun i h r z => by simp at z⟩ (fun j Hj ⟨sj, _⟩ => SqL.of (sj _ _ hrl)) ?_ ?_
    · rintro j v N Hj hj ⟨sj, hs, lhs, hD, ndp, nls, dnew, lnew, hat⟩ hN
      rw [List.getElem?_map] at hj
      obtain ⟨t, et, rfl⟩ := Option.map_eq_some_iff.mp hj
      obtain ⟨r, er, ht⟩ := paired_at hts j t et
      have sN := same_upd (o := .tup [.int (j : Nat), .ref t]) hN
      have htN := sN _ _ (sj _ _ ht)
      refine ⟨N, _, rfl, SqT.of upd_same, rfl, _, _, rfl, _, _, rfl, t, _, rfl, SqT.of htN, rfl, _, _, rfl, _, _, rfl, rfl, rfl, ?_⟩
      refine ⟨rfl, ?_⟩
      refine ⟨_, rfl, _, rfl, _, rfl, _, rfl, rl, _, rfl, .inl (SqL.of (sN _ _ (sj _ _ hrl))), fun x' dx' nx' ndx' ne' => ?_⟩
      rw [List.length_map, lts]
      refine ⟨x', dx', (j : Nat), r.1, r.2, rs.length, rfl, upd_same, hgs r (List.mem_of_getElem? er), c8, fun a H' ea edx oa fa nda ha => ⟨rfl, ?_⟩⟩
      have sNH : Same (upd Hj N (.tup [.int (j : Nat), .ref t])) H' := fun b o e => oa b o (by rw [upd_ne (ne_of_none e nx'), upd_ne (ne_of_none e ndx')]; exact e) (by simp [ne_of_none e nx'])
      have sJ : Same Hj H' := fun b o e => sNH _ _ (sN _ _ e)
      have hD' := sJ _ _ hD
      have jl : j < rs.length := (List.getElem?_eq_some_iff.mp er).1
      have some_no : ∀ {y o}, Hj y = some o → y ∉ a.ds ++ a.ls := fun e m => by
        have z := fa _ m
        have e1 := sN _ _ e
        rw [upd_ne (ne_of_none e1 nx'), upd_ne (ne_of_none e1 ndx'), e1] at z
        cases z
      refine ⟨_, hD', by rw [List.length_map]; exact small1000 (by omega), fun b o e => ?_, hs ++ [a], by rw [List.length_append, lhs]; rfl, ?_, ?_, ?_, ?_, ?_, ?_⟩
      · rw [upd_ne (ne_of_none e nD)]
        exact sJ _ _ (sj _ _ e)
      · rw [upd_same, List.map_append, List.map_cons, ea]
        rfl
      · rw [List.flatMap_append, List.nodup_append]
        refine ⟨ndp, by simpa using nda, fun y hy z hz e => ?_⟩
        subst e
        obtain ⟨h, mh, my⟩ := List.mem_flatMap.mp hy
        obtain ⟨i, hi⟩ := List.mem_iff_getElem?.mp mh
        have il : i < rs.length := by have := (List.getElem?_eq_some_iff.mp hi).1; omega
        have q := hat i h _ hi (List.getElem?_eq_getElem il)
        have hz : y ∈ a.ds := by simpa using hz
        simp only [HomeA.ds, List.mem_cons, List.not_mem_nil, or_false] at my
        rcases my with rfl | rfl | rfl
        · exact some_no q.num.2 (List.mem_append_left _ hz)
        · exact some_no q.st (List.mem_append_left _ hz)
        · exact some_no q.nw (List.mem_append_left _ hz)
      · intro h mh
        rcases List.mem_append.mp mh with m | m
        · exact nls h m
        · rw [List.mem_singleton.mp m]
          exact fun z => some_no hD (List.mem_append_right _ z)
      · intro y my
        rw [List.flatMap_append] at my
        rcases List.mem_append.mp my with m | m
        · exact dnew y m
        · have m : y ∈ a.ds := by simpa using m
          cases z : H y with
          | none => rfl
          | some u => exact (some_no (sj _ _ z) (List.mem_append_left _ m)).elim
      · intro h mh y my
        rcases List.mem_append.mp mh with m | m
        · exact lnew h m y my
        · rw [List.mem_singleton.mp m] at my
          cases z : H y with
          | none => rfl
          | some u => exact (some_no (sj _ _ z) (List.mem_append_right _ my)).elim
      · intro i h r' hi hr'
        by_cases q : i < hs.length
        · rw [List.getElem?_append_left q] at hi
          exact ((hat i h r' hi hr').same sJ).putL hD' (nls h (List.mem_of_getElem? hi))
        · rw [List.getElem?_append_right (by omega)] at hi
          have e0 : i - hs.length = 0 := by
            by_cases z : i - hs.length = 0
            · exact z
            · rw [List.getElem?_eq_none (by simp; omega)] at hi
              cases hi
          rw [e0] at hi
          have eh : a = h := by simpa using hi
          have ei : i = j := by omega
          subst eh ei
          rw [er] at hr'
          cases hr'
          exact ha.putL hD' (fun z => some_no hD (List.mem_append_right _ z))
    · rintro Hj ⟨sj, hs, lhs, hD, ndp, nls, dnew, lnew, hat⟩
      rw [List.length_map, lts] at lhs
      have xj := sj _ _ hx
      have dsH : ∀ (i : Nat) h r, hs[i]? = some h → rs[i]? = some r → ∀ y ∈ h.ds, ∀ o, H y = some o → False := fun i h r h1 _ y my o e => by
        rw [dnew y (List.mem_flatMap.mpr ⟨h, List.mem_of_getElem? h1, my⟩)] at e
        cases e
      refine ⟨_, rfl, x, c.W, dx, _, rfl, xj, TW.cl, TW.na _ (by decide), (by show 0 < 1000; decide), ?_⟩
      have nxD : D ≠ x := fun q => by rw [q, hx] at nD; cases nD
      have o1 : Off [x] H (upd Hj x (.ins c.W dx [("homes", .ref D)])) := Off.put (fun b u e _ => sj _ _ e)
      have x1 : upd Hj x (.ins c.W dx [("homes", .ref D)]) x = some (.ins c.W dx [("homes", .ref D)]) := upd_same
      have hD1 := (upd_ne (o := .ins c.W dx [("homes", .ref D)]) nxD).trans hD
      have hat1 : ∀ (i : Nat) h r, hs[i]? = some h → rs[i]? = some r → HomeAt (upd Hj x (.ins c.W dx [("homes", .ref D)])) c.H c.N h (i : Nat) r.1 r.2 rs.length [] [] := fun i h r h1 h2 => (hat i h r h1 h2).putW hCW.1 hCW.2.1 xj
      show tSeq _ _ _ _ (upd Hj x (.ins c.W dx [("homes", .ref D)]))
      generalize upd Hj x (.ins c.W dx [("homes", .ref D)]) = H1 at *
      refine fun b nb => ⟨_, rfl, x, c.W, dx, _, rfl, (by rw [upd_ne (ne_of_none x1 nb)]; exact x1), TW.cl, TW.na _ (by decide), (by show 1 < 1000; decide), ?_⟩
      show tSeq _ _ _ _ (upd (upd H1 b (.dK [])) x (.ins c.W dx [("homes", .ref D), ("bonds", .ref b)]))
      obtain ⟨o2, x2, b2, hD2, q2⟩ := web_step (F := [("homes", .ref D), ("bonds", .ref b)]) o1 x1 nb hD1 nxD
      have hat2 := fun (i : Nat) h r (h1 : hs[i]? = some h) (h2 : rs[i]? = some r) => ((hat1 i h r h1 h2).same (same_upd (o := .dK []) nb)).putW (f' := [("homes", .ref D), ("bonds", .ref b)]) hCW.1 hCW.2.1 q2
      have db : ∀ (i : Nat) h r, hs[i]? = some h → rs[i]? = some r → b ∉ h.ds := fun i h r h1 h2 m => (hat1 i h r h1 h2).ds_some nb m
      generalize upd (upd H1 b (.dK [])) x (.ins c.W dx [("homes", .ref D), ("bonds", .ref b)]) = H2 at *
      refine fun ml nm => ⟨_, rfl, x, c.W, dx, _, rfl, (by rw [upd_ne (ne_of_none x2 nm)]; exact x2), TW.cl, TW.na _ (by decide), (by show 2 < 1000; decide), ?_⟩
      show tSeq _ _ _ _ (upd (upd H2 ml (.dK [])) x (.ins c.W dx [("homes", .ref D), ("bonds", .ref b), ("mail", .ref ml)]))
      obtain ⟨o3, x3, m3, hD3, q3⟩ := web_step (F := [("homes", .ref D), ("bonds", .ref b), ("mail", .ref ml)]) o2 x2 nm hD2 nxD
      have nbm : b ≠ ml := ne_of_none b2 nm
      have b3 := web_keep (F := [("homes", .ref D), ("bonds", .ref b), ("mail", .ref ml)]) x2 nm b2
      have hat3 := fun (i : Nat) h r (h1 : hs[i]? = some h) (h2 : rs[i]? = some r) => ((hat2 i h r h1 h2).same (same_upd (o := .dK []) nm)).putW (f' := [("homes", .ref D), ("bonds", .ref b), ("mail", .ref ml)]) hCW.1 hCW.2.1 q3
      have dm : ∀ (i : Nat) h r, hs[i]? = some h → rs[i]? = some r → ml ∉ h.ds := fun i h r h1 h2 m => (hat2 i h r h1 h2).ds_some nm m
      generalize upd (upd H2 ml (.dK [])) x (.ins c.W dx [("homes", .ref D), ("bonds", .ref b), ("mail", .ref ml)]) = H3 at *
      refine fun bo nbo => ⟨_, rfl, x, c.W, dx, _, rfl, (by rw [upd_ne (ne_of_none x3 nbo)]; exact x3), TW.cl, TW.na _ (by decide), (by show 3 < 1000; decide), ?_⟩
      show tSeq _ _ _ _ (upd (upd H3 bo (.dK [])) x (.ins c.W dx [("homes", .ref D), ("bonds", .ref b), ("mail", .ref ml), ("bores", .ref bo)]))
      obtain ⟨o4, x4, bo4, hD4, q4⟩ := web_step (F := [("homes", .ref D), ("bonds", .ref b), ("mail", .ref ml), ("bores", .ref bo)]) o3 x3 nbo hD3 nxD
      have nbb : b ≠ bo := ne_of_none b3 nbo
      have nmb : ml ≠ bo := ne_of_none m3 nbo
      have b4 := web_keep (F := [("homes", .ref D), ("bonds", .ref b), ("mail", .ref ml), ("bores", .ref bo)]) x3 nbo b3
      have m4 := web_keep (F := [("homes", .ref D), ("bonds", .ref b), ("mail", .ref ml), ("bores", .ref bo)]) x3 nbo m3
      have hat4 := fun (i : Nat) h r (h1 : hs[i]? = some h) (h2 : rs[i]? = some r) => ((hat3 i h r h1 h2).same (same_upd (o := .dK []) nbo)).putW (f' := [("homes", .ref D), ("bonds", .ref b), ("mail", .ref ml), ("bores", .ref bo)]) hCW.1 hCW.2.1 q4
      have dbo : ∀ (i : Nat) h r, hs[i]? = some h → rs[i]? = some r → bo ∉ h.ds := fun i h r h1 h2 m => (hat3 i h r h1 h2).ds_some nbo m
      generalize upd (upd H3 bo (.dK [])) x (.ins c.W dx [("homes", .ref D), ("bonds", .ref b), ("mail", .ref ml), ("bores", .ref bo)]) = H4 at *
      refine ⟨_, rfl, x, c.W, dx, _, rfl, x4, TW.cl, TW.na _ (by decide), (by show 4 < 1000; decide), ?_⟩
      have ew : putF "ever" (.int 0) [("homes", .ref D), ("bonds", .ref b), ("mail", .ref ml), ("bores", .ref bo)] = webF D b ml bo 0 := rfl
      rw [ew]
      have kd : ∀ {y kv}, H4 y = some (.dK kv) → upd H4 x (.ins c.W dx (webF D b ml bo 0)) y = some (.dK kv) := fun e => by rw [upd_ne (ne_of e x4 (fun z => by cases z))]; exact e
      have o5 : Off [x] H (upd H4 x (.ins c.W dx (webF D b ml bo 0))) := o4.put
      have x5 : upd H4 x (.ins c.W dx (webF D b ml bo 0)) x = some (.ins c.W dx (webF D b ml bo 0)) := upd_same
      have hD5 := (upd_ne (o := .ins c.W dx (webF D b ml bo 0)) nxD).trans hD4
      have b5 := kd b4
      have m5 := kd m4
      have bo5 := kd bo4
      have hat5 := fun (i : Nat) h r (h1 : hs[i]? = some h) (h2 : rs[i]? = some r) => (hat4 i h r h1 h2).putW (f' := webF D b ml bo 0) hCW.1 hCW.2.1 x4
      generalize upd H4 x (.ins c.W dx (webF D b ml bo 0)) = H5 at *
      refine ⟨_, rfl, x, c.W, dx, _, .ref D, rfl, x5, TW.cl, TW.na _ (by decide), rfl, D, rfl, ⟨_, SqL.of hD5⟩, ?_⟩
      refine for_list (K := K) (a := D) (xs := hs.map fun h => V.ref h.x) (fun i σ Hi => (∃ y2 y3 y4 y5, σ = [some (.ref x), some (.ref rl), y2, y3, y4, y5]) ∧ Off [x] H Hi ∧ Hi x = some (.ins c.W dx (webF D b ml bo (i : Nat))) ∧ Hi D = some (.lst (hs.map fun h => V.ref h.x)) ∧ Hi b = some (.dK []) ∧ Hi ml = some (.dK []) ∧ Hi bo = some (.dK []) ∧
          ∃ ss : List SlipA, ss.length = i ∧ ((∀ z ∈ ss, ∀ h ∈ hs, z.td ∉ h.ds) ∧ ∀ z ∈ ss, z.td ≠ b ∧ z.td ≠ ml ∧ z.td ≠ bo) ∧ (∀ (j : Nat) h r z, hs[j]? = some h → rs[j]? = some r → ss[j]? = some z → HomeAt Hi c.H c.N h (j : Nat) r.1 r.2 rs.length [r.1] [(Sum.inl r.1, V.ref z.sl)] ∧ SlipAt Hi c.S z (j : Nat) r.1 ((j : Nat) + 1)) ∧
          (∀ (j : Nat) h r, i ≤ j → hs[j]? = some h → rs[j]? = some r → HomeAt Hi c.H c.N h (j : Nat) r.1 r.2 rs.length [] []))
        ⟨⟨_, _, _, _, rfl⟩, o5, x5, hD5, b5, m5, bo5, [], rfl, ⟨(fun z m => by cases m), (fun z m => by cases m)⟩, (fun j h r z _ _ h3 => by simp at h3), fun j h r _ h1 h2 => hat5 j h r h1 h2⟩ (fun i σ Hi _ q => SqL.of q.2.2.2.1) ?_ ?_
      · rintro i v σ Hi hi ⟨⟨y2, y3, y4, y5, rfl⟩, oi, xi, hDi, bi, mi, boi, ss, lss, ⟨ntd, ntb⟩, hdone, hleft⟩
        rw [List.getElem?_map] at hi
        obtain ⟨h, eh, rfl⟩ := Option.map_eq_some_iff.mp hi
        have il : i < rs.length := by have := (List.getElem?_eq_some_iff.mp eh).1; omega
        obtain ⟨r, er⟩ : ∃ r, rs[i]? = some r := ⟨_, List.getElem?_eq_getElem il⟩
        have hh := hleft i h r (Nat.le_refl _) eh er
        have hgr := hgs r (List.mem_of_getElem? er)
        obtain ⟨rest, hspare⟩ := spare_first hgr
        have mh := List.mem_of_getElem? eh
        refine ⟨_, rfl, _, rfl, _, rfl, h.x, c.H, h.dx, _, .int (i : Nat), rfl, hh.me, TH.cl, TH.na _ (by decide), rfl, (by show 2 ≤ sizeLine; decide), fun wh nwh => ?_⟩
        have sa := same_upd (o := .tup [.str "goal", .int (i : Nat)]) nwh
        have wha : upd Hi wh (.tup [.str "goal", .int (i : Nat)]) wh = some (.tup [.str "goal", .int (i : Nat)]) := upd_same
        generalize upd Hi wh (.tup [.str "goal", .int (i : Nat)]) = Ha at *
        refine ⟨_, rfl, h.x, c.H, h.dx, _, .int (i : Nat), rfl, sa _ _ hh.me, TH.cl, TH.na _ (by decide), rfl, (by show 1 ≤ sizeLine; decide), fun pa npa => ?_⟩
        have sb := same_upd (o := .tup [.int (i : Nat)]) npa
        have pab : upd Ha pa (.tup [.int (i : Nat)]) pa = some (.tup [.int (i : Nat)]) := upd_same
        generalize upd Ha pa (.tup [.int (i : Nat)]) = Hb at *
        refine ⟨(by show 0 ≤ sizeLine; decide), fun hl nhl => ?_⟩
        have sc := same_upd (o := .lst []) nhl
        have hlc : upd Hb hl (.lst []) hl = some (.lst []) := upd_same
        generalize upd Hb hl (.lst []) = Hc at *
        have sAll : Same Hi Hc := fun y o e => sc _ _ (sb _ _ (sa _ _ e))
        have hhc := hh.same sAll
        have ndh : h.ds.Nodup := flat_one ndp mh
        have nds : h.dhd ≠ h.st := fun q => by
          simp only [HomeA.ds, List.nodup_cons, List.mem_cons] at ndh
          exact ndh.1 (.inl q)
        refine ⟨x, dx, D, b, ml, bo, h.x, h.dx, h.nu, h.dn, h.dhd, h.sg, h.wt, h.st, h.nw, h.qu, hl, (i : Nat), (i : Nat), r.1, r.2, r.1, [], rest, [], .ref wh, .non, .ref pa, rfl, sAll _ _ xi, hhc.me, hhc.num, hgr, (by decide), hhc.st, (by decide), hlc, nds, hspare, fun sl d dsl Hd nsl nd od wd dd std sld tdd => ?_⟩
        have free : ∀ {y}, Hc y = none → Hi y = none := fun {y} e => by
          cases z : Hi y with
          | none => rfl
          | some u => rw [sAll _ _ z] at e; cases e
        have nd3 : ∀ {y o}, Hc y = some o → y ≠ x → y ≠ h.dhd → y ≠ h.st → Hd y = some o := fun e n1 n2 n3 => od _ _ e (by simp [n1, n2, n3])
        have other : ∀ {j : Nat} {g : HomeA}, hs[j]? = some g → j ≠ i → ∀ y ∈ g.ds, y ∉ [x, h.dhd, h.st] := fun {j g} ej nji y my m => by
          simp only [List.mem_cons, List.not_mem_nil, or_false] at m
          have jl : j < rs.length := by have := (List.getElem?_eq_some_iff.mp ej).1; omega
          have disj : ∀ z ∈ h.ds, z ≠ y := fun z hz q => by
            subst q
            exact flat_ne ndp ej eh nji my hz
          rcases m with m | m | m
          · subst m
            by_cases ci : j < i
            · obtain ⟨q, _⟩ := hdone j g _ _ ej (List.getElem?_eq_getElem jl) (List.getElem?_eq_getElem (by omega))
              exact q.ds_dict (xi) my
            · exact (hleft j g _ (by omega) ej (List.getElem?_eq_getElem jl)).ds_dict xi my
          · exact disj _ (by simp [HomeA.ds]) m.symm
          · exact disj _ (by simp [HomeA.ds]) m.symm
        have kinds : ∀ y ∈ [x, h.dhd, h.st], (∃ kv, Hc y = some (.dK kv)) ∨ ∃ C dx e f, C ≠ c.H ∧ C ≠ c.N ∧ Hc y = some (.ins C dx (e :: f)) := fun y m => by
          simp only [List.mem_cons, List.not_mem_nil, or_false] at m
          rcases m with rfl | rfl | rfl
          · exact .inr ⟨c.W, dx, _, _, hCW.1, hCW.2.1, sAll _ _ xi⟩
          · exact .inl ⟨_, hhc.num.2⟩
          · exact .inl ⟨_, hhc.st⟩
        have nbd := db i h r eh er
        have nmd := dm i h r eh er
        have nbod := dbo i h r eh er
        have keepD : ∀ {y}, Hi y = some (.dK []) → y ∉ h.ds → Hd y = some (.dK []) := fun {y} e n => nd3 (sAll _ _ e) (ne_of e xi (fun z => by cases z)) (fun q => n (by simp [HomeA.ds, q])) (fun q => n (by simp [HomeA.ds, q]))
        have e1 : ((i : Nat) : Int) + 1 = ((i + 1 : Nat) : Int) := by omega
        rw [e1] at wd sld
        refine ⟨⟨_, _, _, _, rfl⟩, fun y o e ny => ?_, wd, ?_, keepD bi nbd, keepD mi nmd, keepD boi nbod, ss ++ [⟨sl, dsl, wh, pa, d⟩], by rw [List.length_append, lss]; rfl, ?_, ?_, ?_⟩
        · have e2 := oi y o e ny
          refine nd3 (sAll _ _ e2) (fun q => ny (by simp [q])) (fun q => ?_) (fun q => ?_)
          · exact dsH i h r eh er y (by simp [HomeA.ds, q]) o e
          · exact dsH i h r eh er y (by simp [HomeA.ds, q]) o e
        · exact nd3 (sAll _ _ hDi) nxD (ne_of hDi hh.num.2 (fun z => by cases z)) (ne_of hDi hh.st (fun z => by cases z))
        · refine ⟨?_, fun z mz => ?_⟩
          rotate_left
          · rcases List.mem_append.mp mz with m | m
            · exact ntb z m
            · rw [List.mem_singleton.mp m]
              exact ⟨Ne.symm (ne_of_none bi (free nd)), Ne.symm (ne_of_none mi (free nd)), Ne.symm (ne_of_none boi (free nd))⟩
          intro z mz g mg
          rcases List.mem_append.mp mz with m | m
          · exact ntd z m g mg
          · rw [List.mem_singleton.mp m]
            intro q
            obtain ⟨j, ej⟩ := List.mem_iff_getElem?.mp mg
            have jl : j < rs.length := by have := (List.getElem?_eq_some_iff.mp ej).1; omega
            by_cases ci : j < i
            · obtain ⟨q1, _⟩ := hdone j g _ _ ej (List.getElem?_eq_getElem jl) (List.getElem?_eq_getElem (by omega))
              exact q1.ds_some (free nd) q
            · exact (hleft j g _ (by omega) ej (List.getElem?_eq_getElem jl)).ds_some (free nd) q
        · intro j g r' z ej er' ez
          by_cases q : j < ss.length
          · rw [List.getElem?_append_left q] at ez
            obtain ⟨q1, q2⟩ := hdone j g r' z ej er' ez
            refine ⟨(q1.same sAll).off od (other ej (by omega)) kinds, ?_⟩
            have q2c := q2.same sAll
            have ntz := ntd z (List.mem_of_getElem? ez) h mh
            refine ⟨nd3 q2c.me (ne_of q2c.me (sAll _ _ xi) (fun z => by injection z with z; exact hCW.2.2 z.symm)) (ne_of q2c.me hhc.num.2 (fun z => by cases z)) (ne_of q2c.me hhc.st (fun z => by cases z)),
              nd3 q2c.wh (ne_of q2c.wh (sAll _ _ xi) (fun z => by cases z)) (ne_of q2c.wh hhc.num.2 (fun z => by cases z)) (ne_of q2c.wh hhc.st (fun z => by cases z)),
              nd3 q2c.pa (ne_of q2c.pa (sAll _ _ xi) (fun z => by cases z)) (ne_of q2c.pa hhc.num.2 (fun z => by cases z)) (ne_of q2c.pa hhc.st (fun z => by cases z)),
              nd3 q2c.td (ne_of q2c.td (sAll _ _ xi) (fun z => by cases z)) (fun q => ntz (by simp [HomeA.ds, q])) (fun q => ntz (by simp [HomeA.ds, q]))⟩
          · rw [List.getElem?_append_right (by omega)] at ez
            have e0 : j - ss.length = 0 := by
              by_cases z0 : j - ss.length = 0
              · exact z0
              · rw [List.getElem?_eq_none (by simp; omega)] at ez
                cases ez
            rw [e0] at ez
            have ez : (⟨sl, dsl, wh, pa, d⟩ : SlipA) = z := by simpa using ez
            have ej2 : j = i := by omega
            subst ez ej2
            rw [eh] at ej
            cases ej
            rw [er] at er'
            cases er'
            refine ⟨⟨?_, ⟨?_, dd⟩, ?_, ?_, std, ?_, ?_⟩, ⟨sld, ?_, ?_, tdd⟩⟩
            · exact nd3 hhc.me (ne_of hhc.me (sAll _ _ xi) (fun z => by injection z with z; exact hCW.1 z.symm)) (ne_of hhc.me hhc.num.2 (fun z => by cases z)) (ne_of hhc.me hhc.st (fun z => by cases z))
            · exact nd3 hhc.num.1 (ne_of hhc.num.1 (sAll _ _ xi) (fun z => by injection z with z; exact hCW.2.1 z.symm)) (ne_of hhc.num.1 hhc.num.2 (fun z => by cases z)) (ne_of hhc.num.1 hhc.st (fun z => by cases z))
            · exact nd3 hhc.sg (ne_of hhc.sg (sAll _ _ xi) (fun z => by cases z)) (ne_of hhc.sg hhc.num.2 (fun z => by cases z)) (ne_of hhc.sg hhc.st (fun z => by cases z))
            · exact nd3 hhc.wt (ne_of hhc.wt (sAll _ _ xi) (fun z => by cases z)) (ne_of hhc.wt hhc.num.2 (fun z => by cases z)) (ne_of hhc.wt hhc.st (fun z => by cases z))
            · refine nd3 hhc.nw (ne_of hhc.nw (sAll _ _ xi) (fun z => by cases z)) (fun q => ?_) (fun q => ?_)
              · simp only [HomeA.ds, List.nodup_cons, List.mem_cons, List.not_mem_nil, or_false, not_or] at ndh
                exact ndh.1.2 q.symm
              · simp only [HomeA.ds, List.nodup_cons, List.mem_cons, List.not_mem_nil, or_false, not_or] at ndh
                exact ndh.2.1 q.symm
            · exact nd3 hhc.qu (ne_of hhc.qu (sAll _ _ xi) (fun z => by cases z)) (ne_of hhc.qu hhc.num.2 (fun z => by cases z)) (ne_of hhc.qu hhc.st (fun z => by cases z))
            · have q := sc _ _ (sb _ _ wha)
              exact nd3 q (ne_of q (sAll _ _ xi) (fun z => by cases z)) (ne_of q hhc.num.2 (fun z => by cases z)) (ne_of q hhc.st (fun z => by cases z))
            · have q := sc _ _ pab
              exact nd3 q (ne_of q (sAll _ _ xi) (fun z => by cases z)) (ne_of q hhc.num.2 (fun z => by cases z)) (ne_of q hhc.st (fun z => by cases z))
        · intro j g r' hij ej er'
          exact ((hleft j g r' (by omega) ej er').same sAll).off od (other ej (by omega)) kinds
      · rintro σ Hi ⟨⟨y2, y3, y4, y5, rfl⟩, oi, xi, hDi, bi, mi, boi, ss, lss, ⟨ntd, ntb⟩, hdone, hleft⟩
        rw [List.length_map, lhs] at lss xi
        refine kk ⟨x, dx, D, b, ml, bo, hs, ss⟩ Hi rfl oi ⟨xi, hDi, bi, mi, boi, lhs, lss, c1, c8, fun i h r z h1 h2 h3 => ?_⟩ ⟨nbm, nbb, nmb, fun h mh => ?_, fun z mz => ⟨fun h mh => ntd z mz h mh, ntb z mz⟩⟩ nD lnew
        · obtain ⟨q1, q2⟩ := hdone i h r z h1 h2 h3
          exact ⟨hgs r (List.mem_of_getElem? h2), q1, q2⟩
        · obtain ⟨i, hi⟩ := List.mem_iff_getElem?.mp mh
          have hi : hs[i]? = some h := hi
          have il : i < rs.length := by have := (List.getElem?_eq_some_iff.mp hi).1; omega
          exact ⟨db i h _ hi (List.getElem?_eq_getElem il), dm i h _ hi (List.getElem?_eq_getElem il), dbo i h _ hi (List.getElem?_eq_getElem il)⟩
end
end K


/-! o.m(e, .., k = v, ..) -/
namespace L2
open PySem PySem.Spec PyProof.Rows
section
variable {X : Cx} {CX : CXT} {k n : Nat} {f C : Addr} {fd : FuncData} {ps ks : List Str} {sp : Sp} {E : XK} {m : Str} {pos apos : Pos} {e o : Expr} {es : List Expr} {kws : List Keyword} {ta : TE} {t tk : TA} {g : List Value → List Value → List Value} {gV : List V → List V → List V}
def tMethK (C : Addr) (m : Str) (sp : Sp) (n : Nat) (gV : List V → List V → List V) (E : XK) (ta : TE) (t tk : TA) : TE := fun σ H Q => ta σ H fun x H1 => ∃ a dx fs, x = .ref a ∧ H1 a = some (.ins C dx fs) ∧ fs.lookup m = none ∧ t σ H1 fun vs H2 => tk σ H2 fun zs H3 => vs.length + 1 = n ∧ zs.length = ks.length ∧ sp (gV (.ref a :: vs) zs) H3 Q E
theorem pe_methK {pl : Sem Bool} (he : PE X o ta) (c : Cls X.K C) (hm : Meth X.K C m f) (F : FnOk X.prog X.w X.K X.mg X.base CX k f fd ps sp) (hr : Room k X.A) (hb : KBn X.K fd ps n ks g gV) (hx : Passes CX X E) (ha : PA X (e :: es) t) (hkw : PK X kws tk)
    (hall : (backToKw pos (keywordEach kws X.env)).all (·.1.isSome) = true := by rfl) (hks : (backToKw pos (keywordEach kws X.env)).filterMap (·.1) = ks := by rfl)
    (hst : starEach (e :: es) X.env = (false, eval e X.env) :: starEach es X.env := by rfl) (hpl : ((backTo pos (starEach (e :: es) X.env)).any (·.1) || (backToKw pos (keywordEach kws X.env)).any (·.1.isNone)) = false := by rfl)
    (ht : eval (.Call (.Attribute o m apos) (e :: es) kws pos) X.env = (do
      let ov ← eval o X.env
      standAt apos.atName
      let (f, first) ← holding [ov] (getMethod ov m pl)
      callWith pos f first (backTo pos (starEach (e :: es) X.env)) (backToKw pos (keywordEach kws X.env))) := by rfl) :
    PE X (.Call (.Attribute o m apos) (e :: es) kws pos) (tMethK (ks := ks) C m sp n gV E ta t tk) := by
  refine ⟨fun pins s σ H Q I h => ?_⟩
  refine PySem.W.methodCall_KW (pl := pl) (thn (he.run pins s σ H _ I h) fun u s1 ⟨x, H1, I1, rx, a, dx, fs, ex, ea, l, q⟩ => ?_) ht
  subst ex
  obtain rfl : u = Value.ref a := rx
  refine getmeth_ok I1 ea c hm l ?_
  refine PySem.W.callWith_KW (first := [.ref a]) (h₀ := X.base) I.ok.mod.kin hm.kp hall (thn (ha.run pos pins s1 σ H1 _ I1 q) fun us s2 ⟨vs, H2, I2, r, q2⟩ => ?_) hpl hst
  refine thn (hkw.run pos pins s2 σ H2 _ I2 q2) fun ws s3 ⟨zs, H3, I3, rz, l1, l2, q3⟩ => ⟨I3.kIn, ?_⟩
  rw [hks]
  exact run_fnN (us := .ref a :: us) (vs := .ref a :: vs) F hr hb hx I3 (.cons rfl r) rz (by rw [List.length_cons]; exact l1) l2 q3
end
end L2

namespace K
open PySem PySem.Spec PyProof.Rows L2 LamX SwD
abbrev sActed : Stmt := top 75
instance {n : Nat} {h : Int} : Decidable (inH n h) := inferInstanceAs (Decidable (_ ∧ _))
inductive Why
  | nohouse (h : Int)
  | notie
  | word (w : Str)
  | toomany
/-- what refuses a deed on a tie -/
def refuse (n : Nat) (bs : List Bond) (w : Str) (i j p : Int) : Option Why :=
  if ¬ inH n i then some (.nohouse i) else if ¬ inH n j then some (.nohouse j) else
  if i = j then some .notie else
  match bget bs (srt i j) with
  | none => if w = "build" then (if ¬ (1 ≤ p ∧ p ≤ 9) then some (.word "badprice") else if bs.length = 14 then some .toomany else none) else some .notie
  | some v => if w = "build" then some (.word "hastie") else if w = "charge" ∧ ¬ (1 ≤ p ∧ p ≤ 9) then some (.word "badprice") else if w = "snap" ∧ v.2 = false then some (.word "broken") else if w = "mend" ∧ v.2 = true then some (.word "whole") else none
/-- the ties behind a deed that nothing refuses -/
def after (bs : List Bond) (w : Str) (i j p : Int) : List Bond :=
  match bget bs (srt i j) with
  | none => bs ++ [(srt i j, (p, true))]
  | some v => if w = "cut" then delB bs (srt i j) else if w = "charge" then setB bs (srt i j) (p, v.2) else if w = "snap" then setB bs (srt i j) (v.1, false) else setB bs (srt i j) (v.1, true)
structure XC where
  H : Addr
  T : Addr
  M : Addr
  S : Addr
  P : Addr
  B : Addr
  W : Addr
def RefX (x : XC) (i j : Int) (y : Why) (H : Hp) (E : XK) : Prop := match y with
  | .nohouse h => HouseX x.H h H E
  | .notie => TieX x.T i j H E
  | .word w => (w = "hastie" → BareX x.S "hastie" H E) ∧ (w = "badprice" → BareX x.P "badprice" H E) ∧ (w = "broken" → BareX x.B "broken" H E) ∧ (w = "whole" → BareX x.W "whole" H E)
  | .toomany => IntX x.M "bound" "toomany" 14 H E
def isDeed (w : Str) : Prop := w = "build" ∨ w = "charge" ∨ w = "cut" ∨ w = "snap" ∨ w = "mend"
def spActed (c : WebC) (x : XC) (T : List (Addr × Str)) : Sp := fun vs H Q E => ∃ (a : WebA) (rs : List (Int × Int)) (bs : List Bond) (ro : List Addr) (m : Nat) (w : Str) (i j p : Int) (d : Addr), vs = [.ref a.x, .ref d] ∧ H d = some (.tup [.str w, .int i, .int j, .int p]) ∧ isDeed w ∧ TW H c a rs bs ro m ∧ m ≤ 400 ∧ lowI i ∧ lowI j ∧ Tabs T H ∧
  (∀ y, refuse rs.length bs w i j p = some y → RefX x i j y H E) ∧
  (refuse rs.length bs w i j p = none → ∀ (H' : Hp) (a' : WebA) (ro' : List Addr), a'.x = a.x → (∀ y ∈ mutW a' ro', y ∈ mutW a ro ∨ H y = none) → OffN (mutW a ro) H H' → Tabs T H' → (∀ y u, H y = some u → (∀ ps, u ≠ .tbl ps) → y ∉ mutW a ro → y ∉ a.adr → y ∉ a'.adr) → TW H' c a' rs (after bs w i j p) ro' (m + 2) → Q .non H')
theorem TW.more {H : Hp} {c : WebC} {a : WebA} {rs : List (Int × Int)} {bs : List Bond} {ro : List Addr} {m k : Nat} (t : TW H c a rs bs ro m) (h : m ≤ k) : TW H c a rs bs ro k :=
  ⟨t.st.more h, t.b, t.nd, t.ok, t.few, let ⟨mvs, h1, h2, h3⟩ := t.ml; ⟨mvs, h1, by omega, h3⟩, fun r mr => let ⟨ls, h1, h2⟩ := t.rows r mr; ⟨ls, h1, by omega⟩, t.nb, t.nr, t.nt⟩
theorem srt_self {bs : List Bond} {n : Nat} {i : Int} (ok : ∀ e ∈ bs, 0 ≤ e.1.1 ∧ e.1.1 < e.1.2 ∧ e.1.2 < (n : Int)) : bget bs (srt i i) = none := by
  cases e : bget bs (srt i i) with
  | none => rfl
  | some v =>
    obtain ⟨z, mz, ez⟩ := List.mem_map.mp (bget_some.mp ⟨v, e⟩)
    have := (ok z mz).2.1
    rw [ez] at this
    unfold srt at this
    have e1 : (if i < i then i else i) = i := by split <;> rfl
    have e2 : (if i > i then i else i) = i := by split <;> rfl
    rw [e1] at this
    exact absurd this (Int.lt_irrefl _)
section
variable {n : Nat} {bs : List Bond} {w : Str} {i j p : Int} {x : XC} {H : Hp} {E : XK}
theorem ref_first (h : ∀ y, refuse n bs w i j p = some y → RefX x i j y H E) : FirstX x.H n i j H E := by
  refine ⟨fun hi => ?_, fun hi hj => ?_⟩
  · exact h (.nohouse i) (by unfold refuse; rw [if_pos hi])
  · exact h (.nohouse j) (by unfold refuse; rw [if_neg (fun z => z hi), if_pos hj])
theorem ref_tie (ok : ∀ e ∈ bs, 0 ≤ e.1.1 ∧ e.1.1 < e.1.2 ∧ e.1.2 < (n : Int)) (hw : w ≠ "build") (h : ∀ y, refuse n bs w i j p = some y → RefX x i j y H E) : inH n i → inH n j → bget bs (srt i j) = none → TieX x.T i j H E := fun hi hj hb => by
  refine h .notie ?_
  unfold refuse
  rw [if_neg (fun z => z hi), if_neg (fun z => z hj), hb]
  by_cases e : i = j
  · rw [if_pos e]
  · rw [if_neg e]
    simp only [if_neg hw]
theorem ref_some {v : Int × Bool} (ok : ∀ e ∈ bs, 0 ≤ e.1.1 ∧ e.1.1 < e.1.2 ∧ e.1.2 < (n : Int)) (hb : bget bs (srt i j) = some v) : inH n i ∧ inH n j ∧ i ≠ j := by
  have ne : i ≠ j := fun e => by rw [e, srt_self ok] at hb; cases hb
  obtain ⟨z, mz, ez⟩ := List.mem_map.mp (bget_some.mp ⟨v, hb⟩)
  have := ok z mz
  rw [ez] at this
  unfold srt at this
  unfold inH
  split at this <;> split at this <;> simp only [] at this <;> omega
end
section
variable {P : Program} {w : World} {K : PySem.W.Frag} {mg : Str → Option Value} {base : Heap}
theorem scActed : FnScope ["_law_web", "_law_deed", "_law_word", "_law_one", "_law_other", "_law_cost"] ["_law_web", "_law_deed"] (defScope sActed) := ⟨rfl, rfl, rfl, by decide +kernel, rfl, by decide +kernel, by decide +kernel⟩
theorem ok_acted {f fW fB fG fC fS fN : Addr} {c : WebC} {x : XC} {fd fdB fdG fdC fdS fdN : FuncData} {k : Nat} {TL : List (Addr × Str)} (F : Fun K "_law_acted" "_law_acted" sActed f fd) (TC : ClsT K mg "Web" c.W fW webFs)
    (mB : Meth K c.W "build" fB) (GB : FnOk P w K mg base (L2.CX P w) (k + 5) fB fdB ["self", "one", "other", "price"] (spBuild c x.H x.T x.S x.P x.M)) (kB : KBn K fdB ["self", "one", "other", "price"] 3 ["price"] (fun us ws => us ++ ws) (fun vs zs => vs ++ zs))
    (mG : Meth K c.W "charge" fG) (GG : FnOk P w K mg base (L2.CX P w) (k + 5) fG fdG ["self", "one", "other", "price"] (spCharge c x.H x.T x.P)) (kG : KBn K fdG ["self", "one", "other", "price"] 3 ["price"] (fun us ws => us ++ ws) (fun vs zs => vs ++ zs))
    (mC : Meth K c.W "cut" fC) (GC : FnOk P w K mg base (L2.CX P w) (k + 5) fC fdC ["self", "one", "other"] (spCut c x.H x.T TL)) (bC : Binds K fdC ["self", "one", "other"] [])
    (mS : Meth K c.W "snap" fS) (GS : FnOk P w K mg base (L2.CX P w) (k + 5) fS fdS ["self", "one", "other"] (spFlip c x.H x.T x.B "broken" true)) (bS : Binds K fdS ["self", "one", "other"] [])
    (mN : Meth K c.W "mend" fN) (GN : FnOk P w K mg base (L2.CX P w) (k + 5) fN fdN ["self", "one", "other"] (spFlip c x.H x.T x.W "whole" false)) (bN : Binds K fdN ["self", "one", "other"] []) :
    FnOk P w K mg base (L2.CX P w) (k + 6) f fd ["_law_web", "_law_deed"] (spActed c x TL) := by
  refine F.okX scActed (fun vs H Q E h => ?_) (fun cdv A outer s H vs Q E hr h => ?_)
  · obtain ⟨a, rs, bs, ro, m, w, i, j, p, d, rfl, _⟩ := h
    rfl
  · obtain ⟨a, rs, bs, ro, m, wd, i, j, p, d, rfl, hd, hw, W, m4, li, lj, hT, hX, kk⟩ := h
    have hu := hu_of hr
    refine ⟨_, pss_cons (ps_asg (pv 1) (pg_tup rfl (pgs_cons (pg_name (i := 2) scActed.nd rfl (Or.inl rfl)) (pgs_cons (pg_name (i := 3) scActed.nd rfl (Or.inl rfl)) (pgs_cons (pg_name (i := 4) scActed.nd rfl (Or.inl rfl)) (pgs_cons (pg_name (i := 5) scActed.nd rfl (Or.inl rfl)) pgs_nil))))))
      (pss_cons (ps_if (pt_cmpR op_eq (pv 2) pe_str (nomark _)) (pss_one (ps_ret (pe_methK (pv 0) TC.cl mB GB hr kB (passes_call (takes_of rfl rfl rfl rfl) (fun _ _ _ _ h => h)) (pa_cons (pv 3) (pa_cons (pv 4) pa_nil)) (pk_cons (pv 5) pk_nil)))) pss_nil)
      (pss_cons (ps_if (pt_cmpR op_eq (pv 2) pe_str (nomark _)) (pss_one (ps_ret (pe_methK (pv 0) TC.cl mG GG hr kG (passes_call (takes_of rfl rfl rfl rfl) (fun _ _ _ _ h => h)) (pa_cons (pv 3) (pa_cons (pv 4) pa_nil)) (pk_cons (pv 5) pk_nil)))) pss_nil)
      (pss_cons (ps_if (pt_cmpR op_eq (pv 2) pe_str (nomark _)) (pss_one (ps_ret (pe_meth (pv 0) TC.cl mC GC hr bC .nil (passes_call (takes_of rfl rfl rfl rfl) (fun _ _ _ _ h => h)) (pa_cons (pv 3) (pa_cons (pv 4) pa_nil))))) pss_nil)
      (pss_one (ps_ret (pe_ifExp (pt_cmpR op_eq (pv 2) pe_str (nomark _)) (pe_meth (pv 0) TC.cl mS GS hr bS .nil (passes_call (takes_of rfl rfl rfl rfl) (fun _ _ _ _ h => h)) (pa_cons (pv 3) (pa_cons (pv 4) pa_nil))) (pe_meth (pv 0) TC.cl mN GN hr bN .nil (passes_call (takes_of rfl rfl rfl rfl) (fun _ _ _ _ h => h)) (pa_cons (pv 3) (pa_cons (pv 4) pa_nil))))))))), ?_⟩
    refine ⟨_, rfl, d, _, rfl, SqT.of hd, rfl, _, _, rfl, _, _, rfl, _, _, rfl, _, _, rfl, rfl, ?_⟩
    have keepM : ∀ {H' : Hp}, Off (TW.mut a ro) H H' → OffN (mutW a ro) H H' := fun o => OffN.of (o.sub (fun y hy => mem_mut hy))
    have offB : ∀ {H' : Hp}, Off [a.b] H H' → Off (mutW a ro) H H' := fun o => o.sub (fun y hy => by rw [List.mem_singleton.mp hy]; exact mut_b a ro)
    have gone : ∀ {v}, bget bs (srt i j) = some v → inH rs.length i ∧ inH rs.length j ∧ i ≠ j := fun hb => ref_some W.ok hb
    have first := ref_first hX
    rcases hw with rfl | rfl | rfl | rfl | rfl
    · refine ⟨_, rfl, rfl, _, rfl, ifT0 (by decide) ?_⟩
      refine ⟨_, rfl, a.x, a.dx, _, rfl, W.st.me, rfl, _, rfl, _, rfl, _, rfl, rfl, rfl, ?_⟩
      refine ⟨a, rs, bs, ro, m, i, j, p, rfl, W, m4, li, lj, first, fun hi hj e => ?_, fun hi hj ne v hb => ?_, fun hi hj ne hb => ⟨fun hp => ?_, fun hp l14 => ?_, fun hp l14 H' rr nr o' W' => ?_⟩⟩
      · exact hX .notie (by unfold refuse; rw [if_neg (fun z => z hi), if_neg (fun z => z hj), if_pos e])
      · exact (hX (.word "hastie") (by unfold refuse; rw [if_neg (fun z => z hi), if_neg (fun z => z hj), if_neg ne, hb]; rfl)).1 rfl
      · exact (hX (.word "badprice") (by unfold refuse; rw [if_neg (fun z => z hi), if_neg (fun z => z hj), if_neg ne, hb]; show (if _ then _ else _) = _; rw [if_pos rfl, if_pos hp])).2.1 rfl
      · exact hX .toomany (by unfold refuse; rw [if_neg (fun z => z hi), if_neg (fun z => z hj), if_neg ne, hb]; show (if _ then _ else _) = _; rw [if_pos rfl, if_neg (fun z => z hp), if_pos l14])
      · refine kk (by unfold refuse; rw [if_neg (fun z => z hi), if_neg (fun z => z hj), if_neg ne, hb]; show (if _ then _ else _) = _; rw [if_pos rfl, if_neg (fun z => z hp), if_neg (by omega)]) H' a (ro ++ rr) rfl (fun y hy => ?_) (keepM o') (W.tabs hT (o'.sub (fun y hy => mem_mut hy))) (fun y u _ _ _ n => n) (by unfold after; rw [hb]; exact W')
        simp only [mutW, TW.mut, List.mem_append, List.mem_cons, List.not_mem_nil, or_false] at hy ⊢
        rcases hy with h | (h | h | h) | h
        · exact .inl (.inl h)
        · exact .inl (.inr (.inl (.inl h)))
        · exact .inl (.inr (.inl (.inr h)))
        · exact .inr (nr y h)
        · exact .inl (.inr (.inr h))
    · refine ⟨_, rfl, rfl, _, rfl, ifF0 (by decide) ?_⟩
      refine ⟨_, rfl, rfl, _, rfl, ifT0 (by decide) ?_⟩
      refine ⟨_, rfl, a.x, a.dx, _, rfl, W.st.me, rfl, _, rfl, _, rfl, _, rfl, rfl, rfl, ?_⟩
      refine ⟨a, rs, bs, ro, m, i, j, p, rfl, ⟨W, li, lj, first, ref_tie W.ok (by decide) hX⟩, fun v hb hp => ?_, fun q wh hb hp H' o' W' => ?_⟩
      · obtain ⟨hi, hj, ne⟩ := gone hb
        exact (hX (.word "badprice") (by unfold refuse; rw [if_neg (fun z => z hi), if_neg (fun z => z hj), if_neg ne, hb]; show (if _ then _ else _) = _; rw [if_neg (by decide), if_pos ⟨rfl, hp⟩])).2.1 rfl
      · obtain ⟨hi, hj, ne⟩ := gone hb
        exact kk (by unfold refuse; rw [if_neg (fun z => z hi), if_neg (fun z => z hj), if_neg ne, hb]; show (if _ then _ else _) = _; rw [if_neg (by decide), if_neg (fun z => z.2 hp), if_neg (fun z => absurd z.1 (by decide)), if_neg (fun z => absurd z.1 (by decide))]) H' a ro rfl (fun y hy => .inl hy) (OffN.of (offB o')) (W.tabs hT (offB o')) (fun y u _ _ _ n => n) (by unfold after; rw [hb]; show TW H' c a rs (if _ then _ else _) ro _; rw [if_neg (by decide), if_pos rfl]; exact W'.more (by omega))
    · refine ⟨_, rfl, rfl, _, rfl, ifF0 (by decide) ?_⟩
      refine ⟨_, rfl, rfl, _, rfl, ifF0 (by decide) ?_⟩
      refine ⟨_, rfl, rfl, _, rfl, ifT0 (by decide) ?_⟩
      refine ⟨_, rfl, a.x, a.dx, _, rfl, W.st.me, rfl, _, rfl, _, rfl, ?_⟩
      refine ⟨a, rs, bs, ro, m, i, j, rfl, ⟨W, li, lj, first, ref_tie W.ok (by decide) hX⟩, hT, fun v hb H' a' ex em o' hT' ap W' => ?_⟩
      obtain ⟨hi, hj, ne⟩ := gone hb
      exact kk (by unfold refuse; rw [if_neg (fun z => z hi), if_neg (fun z => z hj), if_neg ne, hb]; show (if _ then _ else _) = _; rw [if_neg (by decide), if_neg (fun z => absurd z.1 (by decide)), if_neg (fun z => absurd z.1 (by decide)), if_neg (fun z => absurd z.1 (by decide))]) H' a' ro ex (fun y hy => .inl (by rw [em] at hy; exact hy)) o' hT' ap (by unfold after; rw [hb]; show TW H' c a' rs (if _ then _ else _) ro _; rw [if_pos rfl]; exact W'.more (by omega))
    · refine ⟨_, rfl, rfl, _, rfl, ifF0 (by decide) ?_⟩
      refine ⟨_, rfl, rfl, _, rfl, ifF0 (by decide) ?_⟩
      refine ⟨_, rfl, rfl, _, rfl, ifF0 (by decide) ?_⟩
      refine ⟨_, rfl, rfl, _, rfl, ifT0 (by decide) ?_⟩
      refine ⟨_, rfl, a.x, a.dx, _, rfl, W.st.me, rfl, _, rfl, _, rfl, ?_⟩
      refine ⟨a, rs, bs, ro, m, i, j, rfl, ⟨W, li, lj, first, ref_tie W.ok (by decide) hX⟩, fun q hb => ?_, fun q hb H' o' W' => ?_⟩
      · obtain ⟨hi, hj, ne⟩ := gone hb
        exact (hX (.word "broken") (by unfold refuse; rw [if_neg (fun z => z hi), if_neg (fun z => z hj), if_neg ne, hb]; show (if _ then _ else _) = _; rw [if_neg (by decide), if_neg (fun z => absurd z.1 (by decide)), if_pos ⟨rfl, rfl⟩])).2.2.1 rfl
      · obtain ⟨hi, hj, ne⟩ := gone hb
        exact kk (by unfold refuse; rw [if_neg (fun z => z hi), if_neg (fun z => z hj), if_neg ne, hb]; show (if _ then _ else _) = _; rw [if_neg (by decide), if_neg (fun z => absurd z.1 (by decide)), if_neg (fun z => by cases z.2), if_neg (fun z => absurd z.1 (by decide))]) H' a ro rfl (fun y hy => .inl hy) (OffN.of (offB o')) (W.tabs hT (offB o')) (fun y u _ _ _ n => n) (by unfold after; rw [hb]; show TW H' c a rs (if _ then _ else _) ro _; rw [if_neg (by decide), if_neg (by decide), if_pos rfl]; exact W'.more (by omega))
    · refine ⟨_, rfl, rfl, _, rfl, ifF0 (by decide) ?_⟩
      refine ⟨_, rfl, rfl, _, rfl, ifF0 (by decide) ?_⟩
      refine ⟨_, rfl, rfl, _, rfl, ifF0 (by decide) ?_⟩
      refine ⟨_, rfl, rfl, _, rfl, ifF0 (by decide) ?_⟩
      refine ⟨_, rfl, a.x, a.dx, _, rfl, W.st.me, rfl, _, rfl, _, rfl, ?_⟩
      refine ⟨a, rs, bs, ro, m, i, j, rfl, ⟨W, li, lj, first, ref_tie W.ok (by decide) hX⟩, fun q hb => ?_, fun q hb H' o' W' => ?_⟩
      · obtain ⟨hi, hj, ne⟩ := gone hb
        exact (hX (.word "whole") (by unfold refuse; rw [if_neg (fun z => z hi), if_neg (fun z => z hj), if_neg ne, hb]; show (if _ then _ else _) = _; rw [if_neg (by decide), if_neg (fun z => absurd z.1 (by decide)), if_neg (fun z => absurd z.1 (by decide)), if_pos ⟨rfl, rfl⟩])).2.2.2 rfl
      · obtain ⟨hi, hj, ne⟩ := gone hb
        exact kk (by unfold refuse; rw [if_neg (fun z => z hi), if_neg (fun z => z hj), if_neg ne, hb]; show (if _ then _ else _) = _; rw [if_neg (by decide), if_neg (fun z => absurd z.1 (by decide)), if_neg (fun z => absurd z.1 (by decide)), if_neg (fun z => by cases z.2)]) H' a ro rfl (fun y hy => .inl hy) (OffN.of (offB o')) (W.tabs hT (offB o')) (fun y u _ _ _ n => n) (by unfold after; rw [hb]; show TW H' c a rs (if _ then _ else _) ro _; rw [if_neg (by decide), if_neg (by decide), if_neg (by decide)]; exact W'.more (by omega))
end
end K


namespace K
open PySem PySem.Spec PyProof.Rows L2 LamX SwD
abbrev sRefused : Stmt := top 74
def whyV (i j : Int) : Why → List V
  | .nohouse h => [.str "nohouse", .int h]
  | .notie => [.str "notie", .int i, .int j]
  | .word w => [.str w]
  | .toomany => [.str "toomany", .int 14]
def spRefused : Sp := fun vs H Q _ => ∃ (n : Nat) (lt d : Addr) (kvl : List (List Key × V)) (bs : List Bond) (w : Str) (i j p : Int), vs = [.int (n : Nat), .ref lt, .ref d] ∧ H lt = some (.dT kvl) ∧ Paired (BondAt H) kvl bs ∧ (∀ e ∈ bs, 0 ≤ e.1.1 ∧ e.1.1 < e.1.2 ∧ e.1.2 < (n : Int)) ∧ bs.length ≤ 14 ∧ H d = some (.tup [.str w, .int i, .int j, .int p]) ∧ isDeed w ∧
  (refuse n bs w i j p = none → ∀ H', Same H H' → Q .non H') ∧ ∀ y, refuse n bs w i j p = some y → ∀ (H' : Hp) (t : Addr), Same H H' → H t = none → H' t = some (.tup (whyV i j y)) → Q (.ref t) H'
section
variable {P : Program} {w : World} {K : PySem.W.Frag} {mg : Str → Option Value} {base : Heap}
theorem scRefused : FnScope ["_law_many", "_law_ties", "_law_deed", "_law_word", "_law_one", "_law_other", "_law_cost", "_law_tie", "_law_house"] ["_law_many", "_law_ties", "_law_deed"] (defScope sRefused) := ⟨rfl, rfl, rfl, by decide +kernel, rfl, by decide +kernel, by decide +kernel⟩
theorem ok_refused {f : Addr} {fd : FuncData} {k : Nat} (F : Fun K "_law_refused" "_law_refused" sRefused f fd) (T : BT mg) (mMin : mg "min" = none) (mMax : mg "max" = none) : FnOk P w K mg base CX0 (k + 1) f fd ["_law_many", "_law_ties", "_law_deed"] spRefused := by
  refine F.ok scRefused (fun vs H Q E h => ?_) (fun cdv A outer s H vs Q E hr h => ?_)
  · obtain ⟨n, lt, d, kvl, bs, w, i, j, p, rfl, _⟩ := h
    rfl
  · obtain ⟨n, lt, d, kvl, bs, w, i, j, p, rfl, hlt, hp, hok, h14, hd, hw, kN, kS⟩ := h
    have hu := hu_of hr
    refine ⟨_, pss_cons (ps_asg (pv 2) (pg_tup rfl (pgs_cons (pg_name (i := 3) scRefused.nd rfl (Or.inl rfl)) (pgs_cons (pg_name (i := 4) scRefused.nd rfl (Or.inl rfl)) (pgs_cons (pg_name (i := 5) scRefused.nd rfl (Or.inl rfl)) (pgs_cons (pg_name (i := 6) scRefused.nd rfl (Or.inl rfl)) pgs_nil))))))
      (pss_cons (ps_set (i := 7) scRefused.nd rfl (.inl rfl) (pe_tup (pa_cons (pe_callB (call_min2 rfl) (by rfl) mMin (by decide +kernel) (pa_cons (pv 4) (pa_cons (pv 5) pa_nil))) (pa_cons (pe_callB (call_max2 rfl) (by rfl) mMax (by decide +kernel) (pa_cons (pv 4) (pa_cons (pv 5) pa_nil))) pa_nil))))
      (pss_cons (ps_for PassesOwn.never rfl (pi_tup (pe_tup (pa_cons (pv 4) (pa_cons (pv 5) pa_nil)))) (pg_name (i := 8) scRefused.nd rfl (Or.inl rfl))
        (pss_one (ps_if (pt_not (pt_chain op_le op_lt pe_int (pv 8) (pv 0))) (pss_one (ps_ret (pe_tup (pa_cons pe_str (pa_cons (pv 8) pa_nil))))) pss_nil)))
      (pss_cons (ps_if (PW.pt (pw_or (pt_cmpR op_eq (pv 4) (pv 5) (nomark _)) (pw_or1 (PW.pt (pw_and (pt_cmpR op_ne (pv 3) pe_str (nomark _)) (pw_and1 (pt_cmp (pc_dnotin hu (pv 7) (pv 1)))))))) ) (pss_one (ps_ret (pe_tup (pa_cons pe_str (pa_cons (pv 4) (pa_cons (pv 5) pa_nil)))))) pss_nil)
      (pss_cons (ps_if (PW.pt (pw_and (pt_cmpR op_eq (pv 3) pe_str (nomark _)) (pw_and1 (pt_cmp (pc_din hu (pv 7) (pv 1)))))) (pss_one (ps_ret (pe_tup (pa_cons pe_str pa_nil)))) pss_nil)
      (pss_cons (ps_if (PW.pt (pw_and (pt_cmpR op_in_seq (pv 3) (pe_tup (pa_cons pe_str (pa_cons pe_str pa_nil))) (by rfl)) (pw_and1 (pt_not (pt_chain op_le op_le pe_int (pv 6) pe_int))))) (pss_one (ps_ret (pe_tup (pa_cons pe_str pa_nil)))) pss_nil)
      (pss_cons (ps_if (PW.pt (pw_and (pt_cmpR op_eq (pv 3) pe_str (nomark _)) (pw_and1 (pt_cmpR op_eq (pe_callB call_len_dT (by rfl) T.len PySem.boot_len (pa_cons (pv 1) pa_nil)) pe_int (nomark _))))) (pss_one (ps_ret (pe_tup (pa_cons pe_str (pa_cons pe_int pa_nil))))) pss_nil)
      (pss_cons (ps_if (PW.pt (pw_and (pt_cmpR op_in_seq (pv 3) (pe_tup (pa_cons pe_str (pa_cons pe_str pa_nil))) (by rfl)) (pw_and1 (pt_cmpR op_ne (pe_ix (r := rIxT K) ix_tup (pe_dget hu (pv 1) (pv 7) (fun _ _ => rfl)) pe_int (fun _ _ => rfl)) (pe_cmpR op_eq (pv 3) pe_str (nomark _)) (nomark _)))))
          (pss_one (ps_ret (pe_tup (pa_cons (pe_ix (r := rIxL K) ix_list (pe_lst (pa_cons pe_str (pa_cons pe_str pa_nil))) (pe_callTy call_int1 (by rfl) T.int (by decide +kernel) (pa_cons (pe_cmpR op_eq (pv 3) pe_str (nomark _)) pa_nil)) (fun _ _ => rfl)) pa_nil)))) pss_nil)
      (pss_one (ps_ret pe_non))))))))), ?_⟩
    refine ⟨_, rfl, d, _, rfl, SqT.of hd, rfl, _, _, rfl, _, _, rfl, _, _, rfl, _, _, rfl, rfl, ?_⟩
    refine ⟨_, rfl, _, rfl, i, j, rfl, _, rfl, _, rfl, i, j, rfl, (by show 2 ≤ sizeLine; decide), fun t1 n1 => ?_⟩
    have s1 := same_upd (o := .tup [.int (if j < i then j else i), .int (if j > i then j else i)]) n1
    have ht1 : upd H t1 (.tup [.int (if j < i then j else i), .int (if j > i then j else i)]) t1 = some (.tup [.int (srt i j).1, .int (srt i j).2]) := upd_same
    generalize upd H t1 (.tup [.int (if j < i then j else i), .int (if j > i then j else i)]) = H1 at *
    refine ⟨_, rfl, _, rfl, (by show 2 ≤ sizeLine; decide), fun t2 n2 => ?_⟩
    have s2 := same_upd (o := .tup [.int i, .int j]) n2
    have ht2 := upd_same (H := H1) (a := t2) (o := .tup [.int i, .int j])
    have ht12 := s2 _ _ ht1
    generalize upd H1 t2 (.tup [.int i, .int j]) = H2 at *
    have s12 : Same H H2 := s1.trans s2
    have back : ∀ {t o}, H2 t = none → Same H (upd H2 t o) := fun e => s12.trans (same_upd e)
    refine ⟨t2, rfl, ⟨_, SqT.of ht2⟩, for_tup (K := K) (a := t2) (xs := [.int i, .int j]) (fun t σ H' => (∃ y, σ = [some (.int (n : Nat)), some (.ref lt), some (.ref d), some (.str w), some (.int i), some (.int j), some (.int p), some (.ref t1), y]) ∧ H' = H2 ∧ (1 ≤ t → inH n i) ∧ (2 ≤ t → inH n j)) ⟨⟨_, rfl⟩, rfl, (fun z => absurd z (by omega)), (fun z => absurd z (by omega))⟩ (fun t σ H' _ q => by rw [q.2.1]; exact SqT.of ht2) ?_ ?_⟩
    · rintro t y σ H' hy ⟨⟨y8, rfl⟩, rfl, h1, h2⟩
      have one : ∀ (v : Int), (¬ inH n v → refuse n bs w i j p = some (.nohouse v)) → (inH n v → inH n v) := fun v _ z => z
      match t, hy with
      | 0, hy =>
        cases hy
        refine ⟨_, rfl, _, _, rfl, rfl, _, rfl, ?_⟩
        have bad : ¬ inH n i → ∀ t, H' t = none → Q (.ref t) (upd H' t (.tup [.str "nohouse", .int i])) := fun z t nt => kS (.nohouse i) (by unfold refuse; rw [if_pos z]) _ t (back nt) (s12.free nt) upd_same
        by_cases c1 : 0 ≤ i
        · refine ifT0 (decide_eq_true c1) ⟨_, rfl, _, _, rfl, rfl, _, rfl, ?_⟩
          by_cases c2 : i < (n : Int)
          · exact ifF0 (by rw [decide_eq_true c2]; rfl) ⟨⟨_, rfl⟩, rfl, fun _ => ⟨c1, c2⟩, fun z => absurd z (by omega)⟩
          · exact ifT0 (by rw [decide_eq_false c2]; rfl) ⟨_, rfl, (by show 2 ≤ sizeLine; decide), bad (fun z => c2 z.2)⟩
        · exact ifF0 (decide_eq_false c1) ⟨_, rfl, iteT ⟨_, rfl, (by show 2 ≤ sizeLine; decide), bad (fun z => c1 z.1)⟩⟩
      | 1, hy =>
        cases hy
        have hi := h1 (by omega)
        refine ⟨_, rfl, _, _, rfl, rfl, _, rfl, ?_⟩
        have bad : ¬ inH n j → ∀ t, H' t = none → Q (.ref t) (upd H' t (.tup [.str "nohouse", .int j])) := fun z t nt => kS (.nohouse j) (by unfold refuse; rw [if_neg (fun q => q hi), if_pos z]) _ t (back nt) (s12.free nt) upd_same
        by_cases c1 : 0 ≤ j
        · refine ifT0 (decide_eq_true c1) ⟨_, rfl, _, _, rfl, rfl, _, rfl, ?_⟩
          by_cases c2 : j < (n : Int)
          · exact ifF0 (by rw [decide_eq_true c2]; rfl) ⟨⟨_, rfl⟩, rfl, fun _ => hi, fun _ => ⟨c1, c2⟩⟩
          · exact ifT0 (by rw [decide_eq_false c2]; rfl) ⟨_, rfl, (by show 2 ≤ sizeLine; decide), bad (fun z => c2 z.2)⟩
        · exact ifF0 (decide_eq_false c1) ⟨_, rfl, iteT ⟨_, rfl, (by show 2 ≤ sizeLine; decide), bad (fun z => c1 z.1)⟩⟩
      | t + 2, hy => simp at hy
    · rintro σ H' ⟨⟨y8, rfl⟩, rfl, h1, h2⟩
      have hi : inH n i := h1 (by show 1 ≤ 2; decide)
      have hj : inH n j := h2 (by show 2 ≤ 2; decide)
      have hlt2 := s12 _ _ hlt
      have hp2 : Paired (BondAt H') kvl bs := pair_keep hp (fun y xs e => s12 _ _ e)
      have hlen : kvl.length = bs.length := paired_len hp2
      have step : refuse n bs w i j p = (if i = j then some .notie else match bget bs (srt i j) with
        | none => if w = "build" then (if ¬ (1 ≤ p ∧ p ≤ 9) then some (.word "badprice") else if bs.length = 14 then some .toomany else none) else some .notie
        | some v => if w = "build" then some (.word "hastie") else if w = "charge" ∧ ¬ (1 ≤ p ∧ p ≤ 9) then some (.word "badprice") else if w = "snap" ∧ v.2 = false then some (.word "broken") else if w = "mend" ∧ v.2 = true then some (.word "whole") else none) := by
        unfold refuse
        rw [if_neg (fun z => z hi), if_neg (fun z => z hj)] <;> rfl
      have ret3 : ∀ {y}, refuse n bs w i j p = some y → ∀ t, H' t = none → Q (.ref t) (upd H' t (.tup (whyV i j y))) := fun e t nt => kS _ e _ t (back nt) (s12.free nt) upd_same
      refine ⟨_, rfl, _, rfl, rfl, _, rfl, ?_⟩
      by_cases eij : i = j
      · exact ifT0 (decide_eq_true (by rw [eij])) ⟨_, rfl, _, rfl, (by show 3 ≤ sizeLine; decide), ret3 (y := .notie) (by rw [step, if_pos eij])⟩
      refine ifF0 (decide_eq_false (fun z => eij (by cases z; rfl))) ?_
      rw [if_neg eij] at step
      have dg : DGet H' lt (.ref t1) (valV kvl (kp (srt i j))) := DGet.t (k := kp (srt i j)) hlt2 ht12
      have ret : ∀ {Hx : Hp} {y}, Same H Hx → refuse n bs w i j p = some y → ∀ t, Hx t = none → Q (.ref t) (upd Hx t (.tup (whyV i j y))) := fun sx e t nt => kS _ e _ t (sx.trans (same_upd nt)) (sx.free nt) upd_same
      refine ⟨_, rfl, rfl, _, rfl, ?_⟩
      rcases hw with rfl | rfl | rfl | rfl | rfl
      · refine ifF0 (by decide) ?_
        refine ⟨_, rfl, rfl, _, rfl, ifT0 (by decide) ?_⟩
        refine ⟨_, rfl, _, rfl, lt, _, rfl, dg, _, rfl, ?_⟩
        cases hb : bget bs (srt i j) with
        | some v =>
          obtain ⟨tv, hv1, htv⟩ := (bond_get (k := srt i j) hp2).2 v hb
          rw [hv1]
          exact iteT ⟨(by show 1 ≤ sizeLine; decide), ret s12 (y := .word "hastie") (by rw [step, hb]; rfl)⟩
        | none =>
        rw [(bond_get (k := srt i j) hp2).1 hb]
        refine iteF ?_
        refine ⟨_, rfl, (by show 2 ≤ sizeLine; decide), fun t3 n3 => ⟨t3, _, rfl, .inr (SqT.of upd_same), rfl, rfl, _, rfl, ?_⟩⟩
        have s3 := s12.trans (same_upd (o := .tup [.str "build", .str "charge"]) n3)
        have u3 := same_upd (o := .tup [.str "build", .str "charge"]) n3
        generalize upd H' t3 (.tup [.str "build", .str "charge"]) = H3 at *
        refine ifT0 (by decide) ?_
        refine ⟨_, rfl, _, _, rfl, rfl, _, rfl, ?_⟩
        have hbad : ¬ (1 ≤ p ∧ p ≤ 9) → refuse n bs _ i j p = some (.word "badprice") := fun z => by rw [step, hb]; show (if _ then _ else _) = _; rw [if_pos rfl, if_pos z]
        by_cases c1 : 1 ≤ p
        rotate_left
        · exact ifF0 (decide_eq_false c1) ⟨_, rfl, iteT ⟨(by show 1 ≤ sizeLine; decide), ret s3 (hbad (fun z => c1 z.1))⟩⟩
        refine ifT0 (decide_eq_true c1) ⟨_, _, rfl, rfl, _, rfl, ?_⟩
        by_cases c2 : p ≤ 9
        rotate_left
        · exact ifT0 (by rw [decide_eq_false c2]; rfl) ⟨(by show 1 ≤ sizeLine; decide), ret s3 (hbad (fun z => c2 z.2))⟩
        refine ifF0 (by rw [decide_eq_true c2]; rfl) ?_
        refine ⟨_, rfl, rfl, _, rfl, ifT0 (by decide) ?_⟩
        have hlt3 : H3 lt = some (.dT kvl) := u3 _ _ hlt2
        refine ⟨_, rfl, lt, kvl, rfl, hlt3, rfl, _, rfl, ?_⟩
        by_cases c14 : bs.length = 14
        · exact ifT0 (decide_eq_true (by rw [hlen, c14]; rfl)) ⟨(by show 2 ≤ sizeLine; decide), ret s3 (y := .toomany) (by rw [step, hb]; show (if _ then _ else _) = _; rw [if_pos rfl, if_neg (fun z => z ⟨c1, c2⟩), if_pos c14])⟩
        refine ifF0 (decide_eq_false (fun z => c14 (by rw [hlen] at z; injection z with z; exact Int.ofNat.inj z))) ?_
        refine ⟨_, rfl, (by show 2 ≤ sizeLine; decide), fun t4 n4 => ⟨t4, _, rfl, .inr (SqT.of upd_same), rfl, rfl, _, rfl, ?_⟩⟩
        have s4 := s3.trans (same_upd (o := .tup [.str "snap", .str "mend"]) n4)
        have u4 := u3.trans (same_upd (o := .tup [.str "snap", .str "mend"]) n4)
        generalize upd H3 t4 (.tup [.str "snap", .str "mend"]) = H4 at *
        refine ifF0 (by decide) ?_
        exact kN (by rw [step, hb]; show (if _ then _ else _) = _; rw [if_pos rfl, if_neg (fun z => z ⟨c1, c2⟩), if_neg c14]) _ s4
      · refine ifT0 (by decide) ?_
        refine ⟨_, rfl, _, rfl, lt, _, rfl, dg, _, rfl, ?_⟩
        cases hb : bget bs (srt i j) with
        | none =>
          rw [(bond_get (k := srt i j) hp2).1 hb]
          exact iteT ⟨_, rfl, _, rfl, (by show 3 ≤ sizeLine; decide), ret s12 (y := .notie) (by rw [step, hb]; rfl)⟩
        | some v =>
        obtain ⟨tv, hv1, htv⟩ := (bond_get (k := srt i j) hp2).2 v hb
        rw [hv1]
        refine iteF ?_
        refine ⟨_, rfl, rfl, _, rfl, ifF0 (by decide) ?_⟩
        refine ⟨_, rfl, (by show 2 ≤ sizeLine; decide), fun t3 n3 => ⟨t3, _, rfl, .inr (SqT.of upd_same), rfl, rfl, _, rfl, ?_⟩⟩
        have s3 := s12.trans (same_upd (o := .tup [.str "build", .str "charge"]) n3)
        have u3 := same_upd (o := .tup [.str "build", .str "charge"]) n3
        generalize upd H' t3 (.tup [.str "build", .str "charge"]) = H3 at *
        refine ifT0 (by decide) ?_
        refine ⟨_, rfl, _, _, rfl, rfl, _, rfl, ?_⟩
        have hbad : ¬ (1 ≤ p ∧ p ≤ 9) → refuse n bs _ i j p = some (.word "badprice") := fun z => by rw [step, hb]; show (if _ then _ else _) = _; rw [if_neg (by decide), if_pos ⟨rfl, z⟩]
        by_cases c1 : 1 ≤ p
        rotate_left
        · exact ifF0 (decide_eq_false c1) ⟨_, rfl, iteT ⟨(by show 1 ≤ sizeLine; decide), ret s3 (hbad (fun z => c1 z.1))⟩⟩
        refine ifT0 (decide_eq_true c1) ⟨_, _, rfl, rfl, _, rfl, ?_⟩
        by_cases c2 : p ≤ 9
        rotate_left
        · exact ifT0 (by rw [decide_eq_false c2]; rfl) ⟨(by show 1 ≤ sizeLine; decide), ret s3 (hbad (fun z => c2 z.2))⟩
        refine ifF0 (by rw [decide_eq_true c2]; rfl) ?_
        refine ⟨_, rfl, rfl, _, rfl, ifF0 (by decide) ?_⟩
        refine ⟨_, rfl, (by show 2 ≤ sizeLine; decide), fun t4 n4 => ⟨t4, _, rfl, .inr (SqT.of upd_same), rfl, rfl, _, rfl, ?_⟩⟩
        have s4 := s3.trans (same_upd (o := .tup [.str "snap", .str "mend"]) n4)
        have u4 := u3.trans (same_upd (o := .tup [.str "snap", .str "mend"]) n4)
        generalize upd H3 t4 (.tup [.str "snap", .str "mend"]) = H4 at *
        refine ifF0 (by decide) ?_
        exact kN (by rw [step, hb]; show (if _ then _ else _) = _; rw [if_neg (by decide), if_neg (fun z => z.2 ⟨c1, c2⟩), if_neg (fun z => absurd z.1 (by decide)), if_neg (fun z => absurd z.1 (by decide))]) _ s4
      · refine ifT0 (by decide) ?_
        refine ⟨_, rfl, _, rfl, lt, _, rfl, dg, _, rfl, ?_⟩
        cases hb : bget bs (srt i j) with
        | none =>
          rw [(bond_get (k := srt i j) hp2).1 hb]
          exact iteT ⟨_, rfl, _, rfl, (by show 3 ≤ sizeLine; decide), ret s12 (y := .notie) (by rw [step, hb]; rfl)⟩
        | some v =>
        obtain ⟨tv, hv1, htv⟩ := (bond_get (k := srt i j) hp2).2 v hb
        rw [hv1]
        refine iteF ?_
        refine ⟨_, rfl, rfl, _, rfl, ifF0 (by decide) ?_⟩
        refine ⟨_, rfl, (by show 2 ≤ sizeLine; decide), fun t3 n3 => ⟨t3, _, rfl, .inr (SqT.of upd_same), rfl, rfl, _, rfl, ?_⟩⟩
        have s3 := s12.trans (same_upd (o := .tup [.str "build", .str "charge"]) n3)
        have u3 := same_upd (o := .tup [.str "build", .str "charge"]) n3
        generalize upd H' t3 (.tup [.str "build", .str "charge"]) = H3 at *
        refine ifF0 (by decide) ?_
        refine ⟨_, rfl, rfl, _, rfl, ifF0 (by decide) ?_⟩
        refine ⟨_, rfl, (by show 2 ≤ sizeLine; decide), fun t4 n4 => ⟨t4, _, rfl, .inr (SqT.of upd_same), rfl, rfl, _, rfl, ?_⟩⟩
        have s4 := s3.trans (same_upd (o := .tup [.str "snap", .str "mend"]) n4)
        have u4 := u3.trans (same_upd (o := .tup [.str "snap", .str "mend"]) n4)
        generalize upd H3 t4 (.tup [.str "snap", .str "mend"]) = H4 at *
        refine ifF0 (by decide) ?_
        exact kN (by rw [step, hb]; show (if _ then _ else _) = _; rw [if_neg (by decide), if_neg (fun z => absurd z.1 (by decide)), if_neg (fun z => absurd z.1 (by decide)), if_neg (fun z => absurd z.1 (by decide))]) _ s4
      · refine ifT0 (by decide) ?_
        refine ⟨_, rfl, _, rfl, lt, _, rfl, dg, _, rfl, ?_⟩
        cases hb : bget bs (srt i j) with
        | none =>
          rw [(bond_get (k := srt i j) hp2).1 hb]
          exact iteT ⟨_, rfl, _, rfl, (by show 3 ≤ sizeLine; decide), ret s12 (y := .notie) (by rw [step, hb]; rfl)⟩
        | some v =>
        obtain ⟨tv, hv1, htv⟩ := (bond_get (k := srt i j) hp2).2 v hb
        rw [hv1]
        refine iteF ?_
        refine ⟨_, rfl, rfl, _, rfl, ifF0 (by decide) ?_⟩
        refine ⟨_, rfl, (by show 2 ≤ sizeLine; decide), fun t3 n3 => ⟨t3, _, rfl, .inr (SqT.of upd_same), rfl, rfl, _, rfl, ?_⟩⟩
        have s3 := s12.trans (same_upd (o := .tup [.str "build", .str "charge"]) n3)
        have u3 := same_upd (o := .tup [.str "build", .str "charge"]) n3
        generalize upd H' t3 (.tup [.str "build", .str "charge"]) = H3 at *
        refine ifF0 (by decide) ?_
        refine ⟨_, rfl, rfl, _, rfl, ifF0 (by decide) ?_⟩
        refine ⟨_, rfl, (by show 2 ≤ sizeLine; decide), fun t4 n4 => ⟨t4, _, rfl, .inr (SqT.of upd_same), rfl, rfl, _, rfl, ?_⟩⟩
        have s4 := s3.trans (same_upd (o := .tup [.str "snap", .str "mend"]) n4)
        have u4 := u3.trans (same_upd (o := .tup [.str "snap", .str "mend"]) n4)
        generalize upd H3 t4 (.tup [.str "snap", .str "mend"]) = H4 at *
        refine ifT0 (by decide) ?_
        have dg4 : DGet H4 lt (.ref t1) (some (.ref tv)) := by rw [← hv1]; exact DGet.t (k := kp (srt i j)) (u4 _ _ hlt2) (u4 _ _ ht12)
        have htv4 : H4 tv = some (.tup [.int v.1, .bl v.2]) := u4 _ _ htv
        refine ⟨_, rfl, _, rfl, lt, .ref tv, rfl, dg4, tv, _, 1, _, rfl, rfl, SqT.of htv4, rfl, _, rfl, rfl, rfl, _, rfl, ?_⟩
        obtain ⟨v1, v2⟩ := v
        cases v2 with
        | false =>
          refine ifT0 rfl ?_
          refine ⟨(by show 2 ≤ sizeLine; decide), fun l nl => ?_⟩
          have hl := upd_same (H := H4) (a := l) (o := .lst [.str "broken", .str "whole"])
          have s5 := s4.trans (same_upd (o := .lst [.str "broken", .str "whole"]) nl)
          generalize upd H4 l (.lst [.str "broken", .str "whole"]) = H5 at *
          refine ⟨_, rfl, rfl, .inr ⟨_, rfl, l, _, 0, _, rfl, rfl, SqL.of hl, rfl, (by show 1 ≤ sizeLine; decide), ret s5 (y := .word "broken") (by rw [step, hb]; show (if _ then _ else _) = _; rw [if_neg (by decide), if_neg (fun z => absurd z.1 (by decide)), if_pos ⟨rfl, rfl⟩])⟩⟩
        | true =>
          refine ifF0 rfl ?_
          exact kN (by rw [step, hb]; show (if _ then _ else _) = _; rw [if_neg (by decide), if_neg (fun z => absurd z.1 (by decide)), if_neg (fun z => by cases z.2), if_neg (fun z => absurd z.1 (by decide))]) _ s4
      · refine ifT0 (by decide) ?_
        refine ⟨_, rfl, _, rfl, lt, _, rfl, dg, _, rfl, ?_⟩
        cases hb : bget bs (srt i j) with
        | none =>
          rw [(bond_get (k := srt i j) hp2).1 hb]
          exact iteT ⟨_, rfl, _, rfl, (by show 3 ≤ sizeLine; decide), ret s12 (y := .notie) (by rw [step, hb]; rfl)⟩
        | some v =>
        obtain ⟨tv, hv1, htv⟩ := (bond_get (k := srt i j) hp2).2 v hb
        rw [hv1]
        refine iteF ?_
        refine ⟨_, rfl, rfl, _, rfl, ifF0 (by decide) ?_⟩
        refine ⟨_, rfl, (by show 2 ≤ sizeLine; decide), fun t3 n3 => ⟨t3, _, rfl, .inr (SqT.of upd_same), rfl, rfl, _, rfl, ?_⟩⟩
        have s3 := s12.trans (same_upd (o := .tup [.str "build", .str "charge"]) n3)
        have u3 := same_upd (o := .tup [.str "build", .str "charge"]) n3
        generalize upd H' t3 (.tup [.str "build", .str "charge"]) = H3 at *
        refine ifF0 (by decide) ?_
        refine ⟨_, rfl, rfl, _, rfl, ifF0 (by decide) ?_⟩
        refine ⟨_, rfl, (by show 2 ≤ sizeLine; decide), fun t4 n4 => ⟨t4, _, rfl, .inr (SqT.of upd_same), rfl, rfl, _, rfl, ?_⟩⟩
        have s4 := s3.trans (same_upd (o := .tup [.str "snap", .str "mend"]) n4)
        have u4 := u3.trans (same_upd (o := .tup [.str "snap", .str "mend"]) n4)
        generalize upd H3 t4 (.tup [.str "snap", .str "mend"]) = H4 at *
        refine ifT0 (by decide) ?_
        have dg4 : DGet H4 lt (.ref t1) (some (.ref tv)) := by rw [← hv1]; exact DGet.t (k := kp (srt i j)) (u4 _ _ hlt2) (u4 _ _ ht12)
        have htv4 : H4 tv = some (.tup [.int v.1, .bl v.2]) := u4 _ _ htv
        refine ⟨_, rfl, _, rfl, lt, .ref tv, rfl, dg4, tv, _, 1, _, rfl, rfl, SqT.of htv4, rfl, _, rfl, rfl, rfl, _, rfl, ?_⟩
        obtain ⟨v1, v2⟩ := v
        cases v2 with
        | true =>
          refine ifT0 rfl ?_
          refine ⟨(by show 2 ≤ sizeLine; decide), fun l nl => ?_⟩
          have hl := upd_same (H := H4) (a := l) (o := .lst [.str "broken", .str "whole"])
          have s5 := s4.trans (same_upd (o := .lst [.str "broken", .str "whole"]) nl)
          generalize upd H4 l (.lst [.str "broken", .str "whole"]) = H5 at *
          refine ⟨_, rfl, rfl, .inr ⟨_, rfl, l, _, 1, _, rfl, rfl, SqL.of hl, rfl, (by show 1 ≤ sizeLine; decide), ret s5 (y := .word "whole") (by rw [step, hb]; show (if _ then _ else _) = _; rw [if_neg (by decide), if_neg (fun z => absurd z.1 (by decide)), if_neg (fun z => absurd z.1 (by decide)), if_pos ⟨rfl, rfl⟩])⟩⟩
        | false =>
          refine ifF0 rfl ?_
          exact kN (by rw [step, hb]; show (if _ then _ else _) = _; rw [if_neg (by decide), if_neg (fun z => absurd z.1 (by decide)), if_neg (fun z => absurd z.1 (by decide)), if_neg (fun z => by cases z.2)]) _ s4
end
end K


/-! pair[::step], step 1 or -1 -/
namespace SwP
open PySem PySem.Spec PyProof.Rows L2 HT
section
variable {prog : Program} {w : World} {A : Around} {E : Value → Shared → Prop} {s : Shared}
theorem applied_step {sl : Addr} {st : Int} {tk : Tok} {Q : Int × Int × Nat → Shared → Prop} (hs : s.heap.IsSliceOf sl .none .none (.int st tk)) (hst : st = 1 ∨ st = -1) (h1 : st = 1 → Q (0, 1, 2) s) (h2 : st = -1 → Q (1, -1, 2) s) :
    wpAny (model prog w) A (Builtin.Slice.sliceApplied (.ref sl) (pure (2 : Int))) Q E s := by
  obtain ⟨os, hos, hcs, hds⟩ := id hs
  unfold Builtin.Slice.sliceApplied Builtin.Slice.sliceFields
  refine wpAny_bind (wpAny_bind (wpAny_field hos hds (x := .none) rfl (wpAny_bind (wpAny_field hos hds (x := .none) rfl (wpAny_bind (wpAny_field hos hds (x := .int st tk) rfl (wpAny_pure ?_)))))))
  rcases hst with rfl | rfl
  · refine wpAny_bind (slicePart_int ?_)
    show wpAny _ _ (if ((1 : Int) == 0) = true then _ else _) _ _ s
    rw [if_neg (by decide)]
    refine wpAny_bind (slicePart_none (wpAny_bind (slicePart_none (wpAny_bind (wpAny_pure ?_)))))
    exact wpAny_pure (h1 rfl)
  · refine wpAny_bind (slicePart_int ?_)
    show wpAny _ _ (if ((-1 : Int) == 0) = true then _ else _) _ _ s
    rw [if_neg (by decide)]
    refine wpAny_bind (slicePart_none (wpAny_bind (slicePart_none (wpAny_bind (wpAny_pure ?_)))))
    exact wpAny_pure (h2 rfl)
theorem pair_step {t sl : Addr} {u v : Value} {st : Int} {tk : Tok} {Q : Value → Shared → Prop} (ht : IsTup s.heap t #[u, v]) (hs : s.heap.IsSliceOf sl .none .none (.int st tk)) (hst : st = 1 ∨ st = -1)
    (h1 : st = 1 → Q (.ref t) s) (h2 : st = -1 → Q (.ref s.heap.objs.size) { s with heap := s.heap.push { cls := .type "tuple", data := .seq #[v, u] } }) : wpAny (model prog w) A (getItem (.ref t) (.ref sl)) Q E s := by
  obtain ⟨os, hos, hcs, hds⟩ := id hs
  have hTs : s.TypeIs (.ref sl) "slice" := ⟨os, hos, hcs⟩
  unfold getItem
  try with_reducible refine wpAny_holding ?_
  first | refine wpAny_bind (wpAny_pure ?_) | skip
  refine wpAny_bind (wpAny_sequenceKey ht.typeIs (by decide) ?_)
  refine wpAny_bind (wpAny_callSpecial?_slot (name := Str.ofString "__getitem__") ht.typeIs PyProof.Rows.slot_tuple_getitem (wpAny_call_entry PyProof.Rows.slot_tuple_getitem ht.typeIs entry_tuple_getitem ?_ (args_tuple_getitem _ _)))
  show wpAny _ _ (Builtin.Tuple.tupleItemsOf (.ref t) >>= _) _ _ s
  refine wpAny_bind (tupleItemsOf_ ht ?_)
  refine wpAny_bind (wpAny_typeOf hTs ?_)
  rw [if_pos (by decide)]
  refine wpAny_bind (applied_step hs hst (fun e => ?_) (fun e => ?_))
  · show wpAny _ _ (if ((0 : Int) == 0 && (1 : Int) == 1 && (2 : Nat) == 2) = true then _ else _) _ _ s
    rw [if_pos (by decide)]
    refine wpAny_bind ?_
    show wpAny _ _ (typeOf (.ref t) >>= fun T => pure (T == .type "tuple")) _ _ s
    refine wpAny_bind (wpAny_typeOf ht.typeIs (wpAny_pure ?_))
    first
      | rw [if_pos (by decide)]
      | simp only [beq_self_eq_true, if_true]
    first
      | exact wpAny_bind (wpAny_rule (wpAny_pure ⟨_, rfl, wpAny_pure (h1 e)⟩))
      | exact wpAny_bind (wpAny_rule (wpAny_bind (wpAny_pure (wpAny_pure ⟨_, rfl, wpAny_pure (h1 e)⟩))))
  · show wpAny _ _ (if ((1 : Int) == 0 && (-1 : Int) == 1 && (2 : Nat) == 2) = true then _ else _) _ _ s
    rw [if_neg (by decide)]
    have h2' := h2 e
    have small : sizeOk (.seq #[v, u]) := (by show 2 ≤ sizeLine; decide)
    first
      | exact wpAny_bind (m := Builtin.Tuple.tupleExact _) (wpAny_newObj_type (wpAny_pure ⟨_, rfl, wpAny_pure h2'⟩) small)
      | exact wpAny_bind (m := Builtin.Tuple.tupleExact _) (wpAny_newObj_type (wpAny_bind (wpAny_pure (wpAny_pure ⟨_, rfl, wpAny_pure h2'⟩))) small)
      | exact wpAny_bind (wpAny_bind (m := Builtin.Tuple.tupleExact _) (wpAny_newObj_type (wpAny_pure (wpAny_pure ⟨_, rfl, wpAny_pure h2'⟩)) small))
      | exact wpAny_bind (wpAny_bind (m := Builtin.Tuple.tupleExact _) (wpAny_newObj_type (wpAny_pure ⟨_, rfl, wpAny_pure h2'⟩) small))
end
section
variable {X : Cx}
def tStep (te ts : TE) : TE := fun σ H Q => te σ H fun x H1 => ts σ H1 fun y H2 => ∃ (a : Addr) (i j st : Int), x = .ref a ∧ y = .int st ∧ H2 a = some (.tup [.int i, .int j]) ∧ (st = 1 ∨ st = -1) ∧ (st = 1 → Q (.ref a) H2) ∧ (st = -1 → ∀ p, H2 p = none → Q (.ref p) (upd H2 p (.tup [.int j, .int i])))
theorem pe_step {e f : Expr} {te ts : TE} {p3 pos : Pos} (he : PE X e te) (hf : PE X f ts) : PE X (.Subscript e (.Slice none none (some f) p3) pos) (tStep te ts) := by
  refine ⟨fun pins s σ H Q I h => ?_⟩
  refine Subscript_ (thn (he.run pins s σ H _ I h) fun v s1 ⟨x, H1, I1, r1, q1⟩ => ?_)
  refine wpAny_Slice (thn (po_none.run pins s1 σ H1 (fun o H2 => o = none ∧ H2 = H1) I1 ⟨rfl, rfl⟩) fun vl s2 ⟨l, H2, I2, pl, el, e2⟩ => ?_)
  subst el e2
  refine thn (po_none.run pins s2 σ H2 (fun o H3 => o = none ∧ H3 = H2) I2 ⟨rfl, rfl⟩) fun vu s3 ⟨u, H3, I3, pu, eu, e3⟩ => ?_
  subst eu e3
  refine thn (hf.run pins s3 σ H3 _ I3 q1) fun vs s4 ⟨y, H4, I4, r4, a, i, j, st, ex, ey, ha, hst, k1, k2⟩ => ?_
  subst ex ey
  obtain rfl : v = Value.ref a := r1
  obtain ⟨tk, rfl⟩ := r4
  have el : vl = .none := by cases pl; rfl
  have eu : vu = .none := by cases pu; rfl
  subst el eu
  have I5 : Inv X pins σ H4 { s4 with heap := s4.heap.push { cls := .type "slice", data := .fields #[.none, .none, .int st tk] } } := I4.kept (t' := s4.toks) fun b ob q => Heap.get?_push_of_some _ q
  obtain ⟨its, r, ht, hz⟩ := I5.tuple (SqT.of ha)
  obtain ⟨t1, t2, ei, ri, rj⟩ := vals2 r
  subst ei
  show wpAny (model X.prog X.w) X.A (subscriptTail e (.Slice none none (some f) p3) (.ref a) (.ref s4.heap.objs.size)) (EP X pins σ Q) X.xe { s4 with heap := s4.heap.push { cls := .type "slice", data := .fields #[.none, .none, .int st tk] } }
  refine tail_any (ops := [.ref a, .ref s4.heap.objs.size]) ht.typeIs PyProof.Rows.slot_tuple_getitem.lookup ?_ (by with_unfolding_all rfl)
  refine pair_step ht (Heap.IsSliceOf.new _ .none .none (.int st tk)) hst (fun e => ⟨.ref a, H4, I5, rfl, k1 e⟩) (fun e => ?_)
  refine ⟨.ref _, _, I5.laid (t' := s4.toks) (o := .tup [.int j, .int i]) (fun b ob q => Heap.get?_push_of_some _ q) (Nat.le_refl _) ?_, rfl, k2 e _ (I5.hok.fresh (Nat.le_refl _))⟩
  exact ⟨(by show 2 ≤ sizeLine; decide), [t2, t1], .cons rj (.cons ri .nil), IsTup.new _ _⟩
end
end SwP

namespace K
open PySem PySem.Spec PyProof.Rows L2
open Sw (T3 Dist)
abbrev sWild : Stmt := top 68
def spWild : Sp := fun vs H Q _ => ∃ (p q : Addr), vs = [.ref p] ∧ BoxAt H p q ∧ ∀ (z : Int) (H' : Hp), (z = -1 ∨ z = 8 ∨ z = 9 ∨ z = 10 ^ 20 ∨ z = -(10 ^ 30)) → BoxAt H' p q → But p H H' → Q (.int z) H'
theorem ifT {c : Bool} {A B : Prop} (hc : c = true) (h : A) : if c = true then A else B := by rw [if_pos hc]; exact h
theorem ifF {c : Bool} {A B : Prop} (hc : c = false) (h : B) : if c = true then A else B := by rw [hc, if_neg Bool.false_ne_true]; exact h
section
variable {P : Program} {w : World} {K : PySem.W.Frag} {mg : Str → Option Value} {base : Heap}
theorem scWild : FnScope ["_law_box_here"] ["_law_box_here"] (defScope sWild) := ⟨rfl, rfl, rfl, by decide +kernel, rfl, by decide +kernel, by decide +kernel⟩
theorem ok_wild {f fT : Addr} {fd fdT : FuncData} {k : Nat} (F : Fun K "_law_wild" "_law_wild" sWild f fd) (c_law_take : Cal P w K mg base (k + 1) "_law_take" fT fdT ["_law_box_here", "_law_sides"] spTake) : FnOk P w K mg base CX0 (k + 2) f fd ["_law_box_here"] spWild := by
  refine F.ok scWild (fun vs H Q E h => ?_) (fun cdv A outer s H vs Q E hr h => ?_)
  · obtain ⟨p, q, rfl, _⟩ := h
    rfl
  · obtain ⟨p, q, rfl, hB, kk⟩ := h
    refine ⟨_, (pss_one (ps_ret (pe_ix (r := rIxL K) ix_list (pe_lst (pa_cons (pe_un un_neg pe_int) (pa_cons pe_int (pa_cons pe_int (pa_cons (pe_op op_pow pe_int pe_int) (pa_cons (pe_un un_neg (pe_op op_pow pe_int pe_int)) pa_nil)))))) (pe_call c_law_take.ok hr (by rfl) c_law_take.g c_law_take.kp c_law_take.b .nil pass0 (pa_cons (pv 0) (pa_cons pe_int pa_nil))) (fun _ _ => rfl)))), ?_⟩
    refine ⟨1, rfl, 10, 20, rfl, rfl, ⟨by decide, by decide, by decide⟩, 10, 30, rfl, rfl, ⟨by decide, by decide, by decide⟩, _, rfl, (by show 5 ≤ sizeLine; decide), fun l nl => ?_⟩
    have s1 := same_upd (o := .lst [.int (-1), .int 8, .int 9, .int (10 ^ (20 : Int).toNat), .int (-(10 ^ (30 : Int).toNat))]) nl
    obtain ⟨op, ep⟩ := hB.p_some
    have nlp : l ≠ p := Ne.symm (ne_of_none ep nl)
    refine ⟨_, rfl, p, q, 5, rfl, hB.same s1, by omega, by omega, fun z H2 hz0 hz1 B2 b2 => ?_⟩
    have hl2 : H2 l = some (.lst [.int (-1), .int 8, .int 9, .int (10 ^ (20 : Int).toNat), .int (-(10 ^ (30 : Int).toNat))]) := b2 _ _ upd_same nlp
    have b : But p H H2 := (But.of_same s1).trans b2
    have : z = 0 ∨ z = 1 ∨ z = 2 ∨ z = 3 ∨ z = 4 := by omega
    rcases this with e | e | e | e | e
    · subst e; exact ⟨l, _, 0, _, rfl, rfl, SqL.of hl2, rfl, kk _ H2 (.inl rfl) B2 b⟩
    · subst e; exact ⟨l, _, 1, _, rfl, rfl, SqL.of hl2, rfl, kk _ H2 (.inr (.inl rfl)) B2 b⟩
    · subst e; exact ⟨l, _, 2, _, rfl, rfl, SqL.of hl2, rfl, kk _ H2 (.inr (.inr (.inl rfl))) B2 b⟩
    · subst e; exact ⟨l, _, 3, _, rfl, rfl, SqL.of hl2, rfl, kk _ H2 (.inr (.inr (.inr (.inl rfl)))) B2 b⟩
    · subst e; exact ⟨l, _, 4, _, rfl, rfl, SqL.of hl2, rfl, kk _ H2 (.inr (.inr (.inr (.inr rfl)))) B2 b⟩
end
end K

namespace K
open PySem PySem.Spec PyProof.Rows L2 LamX SwD
abbrev sOf : Stmt := top 66
abbrev sDeed : Stmt := top 73
def spOfV : Sp := fun vs H Q _ => ∃ (p q t : Addr) (xs : List V), vs = [.ref p, .ref t] ∧ BoxAt H p q ∧ t ≠ p ∧ H t = some (.lst xs) ∧ xs ≠ [] ∧ xs.length ≤ 1000 ∧ ∀ (v : V) (H' : Hp), v ∈ xs → BoxAt H' p q → But p H H' → Q v H'
def spDeed : Sp := fun vs H Q _ => ∃ (p q lt : Addr) (n : Nat) (kvl : List (List Key × V)) (bs : List Bond), vs = [.ref p, .int (n : Nat), .ref lt] ∧ BoxAt H p q ∧ 0 < n ∧ n ≤ 8 ∧ H lt = some (.dT kvl) ∧ Paired (BondAt H) kvl bs ∧ (∀ k ∈ bs.map (·.1), small k) ∧ bs.length ≤ 14 ∧
  ∀ (d : Addr) (w : Str) (i j z : Int) (H' : Hp), isDeed w → lowI i → lowI j → H d = none → H' d = some (.tup [.str w, .int i, .int j, .int z]) → BoxAt H' p q → But p H H' → Q (.ref d) H'
theorem low_small {i : Int} (h0 : 0 ≤ i) (h1 : i < 64) : lowI i := by
  obtain ⟨m, rfl⟩ := Int.eq_ofNat_of_zero_le h0
  have : ∀ m : Fin 64, ((m.val : Nat) : Int).natAbs.log2 < 1920 := by decide +kernel
  exact this ⟨m, by omega⟩
theorem low_wild {z : Int} (h : z = -1 ∨ z = 8 ∨ z = 9 ∨ z = 10 ^ 20 ∨ z = -(10 ^ 30)) : lowI z := by
  rcases h with rfl | rfl | rfl | rfl | rfl <;> (unfold lowI; decide +kernel)
section
variable {P : Program} {w : World} {K : PySem.W.Frag} {mg : Str → Option Value} {base : Heap}
theorem scOf : FnScope ["_law_box_here", "_law_some"] ["_law_box_here", "_law_some"] (defScope sOf) := ⟨rfl, rfl, rfl, by decide +kernel, rfl, by decide +kernel, by decide +kernel⟩
theorem ok_ofV {f fT : Addr} {fd fdT : FuncData} {k : Nat} (F : Fun K "_law_of" "_law_of" sOf f fd) (T : BT mg) (c_law_take : Cal P w K mg base (k + 1) "_law_take" fT fdT ["_law_box_here", "_law_sides"] spTake) : FnOk P w K mg base CX0 (k + 2) f fd ["_law_box_here", "_law_some"] spOfV := by
  refine F.ok scOf (fun vs H Q E h => ?_) (fun cdv A outer s H vs Q E hr h => ?_)
  · obtain ⟨p, q, t, xs, rfl, _⟩ := h
    rfl
  · obtain ⟨p, q, t, xs, rfl, hB, htp, ht, hne, hl, kk⟩ := h
    refine ⟨_, (pss_one (ps_ret (pe_ix (r := rIxL K) ix_list (pv 1) (pe_call c_law_take.ok hr (by rfl) c_law_take.g c_law_take.kp c_law_take.b .nil pass0 (pa_cons (pv 0) (pa_cons (pe_callB call_len_seq (by rfl) T.len PySem.boot_len (pa_cons (pv 1) pa_nil)) pa_nil))) (fun _ _ => rfl)))), ?_⟩
    have h0 : 0 < xs.length := List.length_pos_iff.mpr hne
    refine ⟨_, rfl, _, rfl, _, rfl, t, _, rfl, .inl (SqL.of ht), p, q, (xs.length : Nat), rfl, hB, by omega, by omega, fun z H2 hz0 hz1 B2 b2 => ?_⟩
    obtain ⟨m, rfl⟩ : ∃ m : Nat, z = (m : Nat) := ⟨z.toNat, by omega⟩
    have hm : m < xs.length := by omega
    refine ⟨t, _, _, _, rfl, rfl, SqL.of (b2 _ _ ht htp), atI_nat (List.getElem?_eq_getElem hm), ?_⟩
    exact kk _ H2 (List.getElem_mem hm) B2 b2
theorem scDeed : FnScope ["_law_box_here", "_law_many", "_law_ties", "_law_one", "_law_other", "_law_word"] ["_law_box_here", "_law_many", "_law_ties"] (defScope sDeed) := ⟨rfl, rfl, rfl, by decide +kernel, rfl, by decide +kernel, by decide +kernel⟩
theorem ok_deed {f fT fO fL : Addr} {fd fdT fdO fdL : FuncData} {k : Nat} (F : Fun K "_law_tie_deed" "_law_tie_deed" sDeed f fd) (T : BT mg) (mMax : mg "max" = none) (c_law_take : Cal P w K mg base (k + 2) "_law_take" fT fdT ["_law_box_here", "_law_sides"] spTake) (c_law_of : Cal P w K mg base (k + 2) "_law_of" fO fdO ["_law_box_here", "_law_some"] spOfV) (c_law_wild : Cal P w K mg base (k + 2) "_law_wild" fL fdL ["_law_box_here"] spWild) :
    FnOk P w K mg base CX0 (k + 3) f fd ["_law_box_here", "_law_many", "_law_ties"] spDeed := by
  refine F.ok scDeed (fun vs H Q E h => ?_) (fun cdv A outer s H vs Q E hr h => ?_)
  · obtain ⟨p, q, lt, n, kvl, bs, rfl, _⟩ := h
    rfl
  · obtain ⟨p, q, lt, n, kvl, bs, rfl, B, n0, n8, hlt, hp, hsm, h14, kk⟩ := h
    have hu := hu_of hr
    refine ⟨_, (pss_cons (ps_par (i := 3) (j := 4) (by rfl) scDeed.nd rfl rfl (by decide) rfl rfl (pa_cons (pe_call c_law_take.ok hr (by rfl) c_law_take.g c_law_take.kp c_law_take.b .nil pass0 (pa_cons (pv 0) (pa_cons (pv 1) pa_nil))) (pa_cons (pe_call c_law_take.ok hr (by rfl) c_law_take.g c_law_take.kp c_law_take.b .nil pass0 (pa_cons (pv 0) (pa_cons (pv 1) pa_nil))) pa_nil)) (by rfl))
      (pss_mid (ps_if (PW.pt (pw_and (pt_cmpR (op_neT hr.units0) (pv 2) pe_dnewK (nomark _)) (pw_and1 (pt_cmpR op_gt (pe_call c_law_take.ok hr (by rfl) c_law_take.g c_law_take.kp c_law_take.b .nil pass0 (pa_cons (pv 0) (pa_cons pe_int pa_nil))) pe_int (nomark _)))))
        (pss_one (ps_asg (SwP.pe_step (pe_call c_law_of.ok hr (by rfl) c_law_of.g c_law_of.kp c_law_of.b .nil pass0 (pa_cons (pv 0) (pa_cons (pe_callB (call_sortedDT rfl) (by rfl) T.sorted (by decide +kernel) (pa_cons (pv 2) pa_nil)) pa_nil))) (pe_op op_sub pe_int (pe_op op_mul pe_int (pe_call c_law_take.ok hr (by rfl) c_law_take.g c_law_take.kp c_law_take.b .nil pass0 (pa_cons (pv 0) (pa_cons pe_int pa_nil)))))) (pg_tup rfl (pgs_cons (pg_name (i := 3) scDeed.nd rfl (Or.inl rfl)) (pgs_cons (pg_name (i := 4) scDeed.nd rfl (Or.inl rfl)) pgs_nil)))))
        pss_nil)
      (pss_mid (ps_if (pt_cmpR op_eq (pe_call c_law_take.ok hr (by rfl) c_law_take.g c_law_take.kp c_law_take.b .nil pass0 (pa_cons (pv 0) (pa_cons pe_int pa_nil))) pe_int (nomark _))
        (pss_one (ps_set (i := 3) scDeed.nd rfl (.inl rfl) (pe_call c_law_wild.ok hr (by rfl) c_law_wild.g c_law_wild.kp c_law_wild.b .nil pass0 (pa_cons (pv 0) pa_nil))))
        pss_nil)
      (pss_mid (ps_if (pt_cmpR op_eq (pe_call c_law_take.ok hr (by rfl) c_law_take.g c_law_take.kp c_law_take.b .nil pass0 (pa_cons (pv 0) (pa_cons pe_int pa_nil))) pe_int (nomark _))
        (pss_one (ps_set (i := 4) scDeed.nd rfl (.inl rfl) (pe_call c_law_wild.ok hr (by rfl) c_law_wild.g c_law_wild.kp c_law_wild.b .nil pass0 (pa_cons (pv 0) pa_nil))))
        pss_nil)
      (pss_cons (ps_set (i := 5) scDeed.nd rfl (.inl rfl) (pe_ix (r := rIxL K) ix_list (pe_lst (pa_cons pe_str (pa_cons pe_str (pa_cons pe_str (pa_cons pe_str (pa_cons pe_str (pa_cons pe_str (pa_cons pe_str pa_nil)))))))) (pe_call c_law_take.ok hr (by rfl) c_law_take.g c_law_take.kp c_law_take.b .nil pass0 (pa_cons (pv 0) (pa_cons pe_int pa_nil))) (fun _ _ => rfl)))
      (pss_one (ps_ret (pe_tup (pa_cons (pv 5) (pa_cons (pv 3) (pa_cons (pv 4) (pa_cons (pe_ix (r := rIxL K) ix_list (pe_lst (pa_cons (pe_op op_add pe_int (pe_call c_law_take.ok hr (by rfl) c_law_take.g c_law_take.kp c_law_take.b .nil pass0 (pa_cons (pv 0) (pa_cons pe_int pa_nil)))) (pa_cons pe_int (pa_cons pe_int (pa_cons pe_int (pa_cons (pe_call c_law_wild.ok hr (by rfl) c_law_wild.g c_law_wild.kp c_law_wild.b .nil pass0 (pa_cons (pv 0) pa_nil)) pa_nil)))))) (pe_callB (call_max2 rfl) (by rfl) mMax (by decide +kernel) (pa_cons pe_int (pa_cons (pe_op op_sub (pe_call c_law_take.ok hr (by rfl) c_law_take.g c_law_take.kp c_law_take.b .nil pass0 (pa_cons (pv 0) (pa_cons pe_int pa_nil))) pe_int) pa_nil))) (fun _ _ => rfl)) pa_nil)))))))))))), ?_⟩
    have ltp : ∀ {Hx : Hp}, BoxAt Hx p q → Hx lt = some (.dT kvl) → lt ≠ p := fun b e z => by
      obtain ⟨ms, a1, a2, a3, h1, _⟩ := b
      rw [z, h1] at e; cases e
    have nlp := ltp B hlt
    have tupB : ∀ {Hx Hy : Hp} {y xs}, BoxAt Hx p q → But p Hx Hy → Hx y = some (.tup xs) → Hy y = some (.tup xs) := fun b u e => u _ _ e (fun z => by
      obtain ⟨ms, a1, a2, a3, h1, _⟩ := b
      rw [z, h1] at e; cases e)
    refine ⟨_, rfl, _, rfl, p, q, (n : Nat), rfl, B, by omega, by omega, fun z1 H1 a0 a1 B1 b1 => ?_⟩
    refine ⟨_, rfl, _, rfl, p, q, (n : Nat), rfl, B1, by omega, by omega, fun z2 H2 c0 c1 B2 b2 => ?_⟩
    refine ⟨_, _, rfl, ?_⟩
    have b12 := b1.trans b2
    refine ⟨fun σ H' => ∃ i j, σ = [some (.ref p), some (.int (n : Nat)), some (.ref lt), some (.int i), some (.int j), none] ∧ lowI i ∧ lowI j ∧ BoxAt H' p q ∧ But p H H', ?_, ?_⟩
    · -- one of the ties
      refine ⟨_, rfl, fun e1 ne1 => ?_⟩
      have s3 := same_upd (o := .dK []) ne1
      have he1 := upd_same (H := H2) (a := e1) (o := .dK [])
      have B3 := B2.same s3
      have b13 := b12.trans (But.of_same s3)
      generalize upd H2 e1 (.dK []) = H3 at *
      have hlt3 := b13 _ _ hlt nlp
      refine ⟨lt, e1, kvl, rfl, rfl, hlt3, he1, _, rfl, ?_⟩
      have stay : lowI z1 ∧ lowI z2 := ⟨low_small a0 (by omega), low_small c0 (by omega)⟩
      cases hk : kvl with
      | nil =>
        exact ifF0 rfl ⟨z1, z2, rfl, stay.1, stay.2, B3, b13⟩
      | cons kv0 kvr =>
      refine ifT0 rfl ?_
      refine ⟨_, rfl, p, q, 3, rfl, B3, by omega, by omega, fun z4 H4 d0 d1 B4 b4 => ?_⟩
      have b14 := b13.trans b4
      refine ⟨_, _, rfl, rfl, _, rfl, ?_⟩
      by_cases c4 : z4 > 0
      rotate_left
      · exact ifF0 (decide_eq_false c4) ⟨z1, z2, rfl, stay.1, stay.2, B4, b14⟩
      refine ifT0 (decide_eq_true c4) ?_
      have hlt4 := b14 _ _ hlt nlp
      have hp4 : Paired (BondAt H4) kvl bs := pair_keep hp (fun y xs e => tupB B b14 e)
      refine ⟨_, rfl, _, rfl, lt, kvl, bs.map (·.1), rfl, Rd.of hlt4, bond_keys hp4, by rw [List.length_map]; omega, hsm, fun as ys l pm pw pr nl => ?_⟩
      have s5 := same_upd (o := .lst (as.map V.ref)) nl
      have hl5 := upd_same (H := H4) (a := l) (o := .lst (as.map V.ref))
      have B5 := B4.same s5
      have b15 := b14.trans (But.of_same s5)
      have pr5 : Paired (PairAt (upd H4 l (.lst (as.map V.ref)))) as ys := paired_mono (fun b k h => s5 _ _ h) pr
      have nl5 : l ≠ p := fun z => by
        obtain ⟨o, e⟩ := B4.p_some
        rw [← z, nl] at e; cases e
      generalize upd H4 l (.lst (as.map V.ref)) = H5 at *
      have lay : as.length = ys.length := paired_len pr5
      have las : as ≠ [] := fun z => by
        rw [z] at lay
        have e1 := pm.length_eq
        rw [List.length_map] at e1
        have e2 := paired_len hp
        rw [hk] at e2
        simp at lay e2
        omega
      refine ⟨p, q, l, as.map V.ref, rfl, B5, nl5, hl5, (fun z => las (List.map_eq_nil_iff.mp z)), by rw [List.length_map, lay, pm.length_eq, List.length_map]; omega, fun v H6 mv B6 b6 => ?_⟩
      obtain ⟨t, mt, rfl⟩ := List.mem_map.mp mv
      obtain ⟨jt, hjt⟩ := List.mem_iff_getElem?.mp mt
      obtain ⟨k, hk2, htk⟩ := paired_at pr5 jt t hjt
      have sk : small k := hsm k (pm.mem_iff.mp (List.mem_of_getElem? hk2))
      have b16 := b15.trans b6
      have htk6 : PairAt H6 t k := tupB B5 b6 htk
      refine ⟨_, rfl, p, q, 2, rfl, B6, by omega, by omega, fun z7 H7 f0 f1 B7 b7 => ?_⟩
      have b17 := b16.trans b7
      have htk7 : PairAt H7 t k := tupB B6 b7 htk6
      refine ⟨_, _, rfl, rfl, .inl ⟨by decide, by decide⟩, ?_⟩
      refine ⟨_, _, rfl, rfl, t, k.1, k.2, 1 - 2 * z7, rfl, rfl, htk7, (by omega), fun _ => ?_, fun _ r nr => ?_⟩
      · refine ⟨t, _, rfl, SqT.of htk7, rfl, _, _, rfl, _, _, rfl, rfl, k.1, k.2, rfl, low_small sk.1 sk.2.1, low_small sk.2.2.1 sk.2.2.2, B7, b17⟩
      · have s8 := same_upd (o := .tup [.int k.2, .int k.1]) nr
        refine ⟨r, _, rfl, SqT.of upd_same, rfl, _, _, rfl, _, _, rfl, rfl, k.2, k.1, rfl, low_small sk.2.2.1 sk.2.2.2, low_small sk.1 sk.2.1, B7.same s8, b17.trans (But.of_same s8)⟩
    · rintro σ H3 ⟨i, j, rfl, li, lj, B3, b3⟩
      -- a wild one
      refine ⟨fun σ H' => ∃ i j, σ = [some (.ref p), some (.int (n : Nat)), some (.ref lt), some (.int i), some (.int j), none] ∧ lowI i ∧ lowI j ∧ BoxAt H' p q ∧ But p H H', ?_, ?_⟩
      · refine ⟨_, rfl, p, q, 12, rfl, B3, by omega, by omega, fun z4 H4 d0 d1 B4 b4 => ?_⟩
        have b34 := b3.trans b4
        refine ⟨rfl, _, rfl, ?_⟩
        by_cases c4 : z4 = 0
        rotate_left
        · exact ifF0 (decide_eq_false (fun z => c4 (by injection z))) ⟨i, j, rfl, li, lj, B4, b34⟩
        refine ifT0 (decide_eq_true (by rw [c4])) ?_
        exact ⟨_, rfl, p, q, rfl, B4, fun z H5 hz B5 b5 => ⟨z, j, rfl, low_wild hz, lj, B5, b34.trans b5⟩⟩
      rintro σ H5 ⟨i, j, rfl, li, lj, B5, b5⟩
      refine ⟨fun σ H' => ∃ i j, σ = [some (.ref p), some (.int (n : Nat)), some (.ref lt), some (.int i), some (.int j), none] ∧ lowI i ∧ lowI j ∧ BoxAt H' p q ∧ But p H H', ?_, ?_⟩
      · refine ⟨_, rfl, p, q, 12, rfl, B5, by omega, by omega, fun z4 H4 d0 d1 B4 b4 => ?_⟩
        have b34 := b5.trans b4
        refine ⟨rfl, _, rfl, ?_⟩
        by_cases c4 : z4 = 0
        rotate_left
        · exact ifF0 (decide_eq_false (fun z => c4 (by injection z))) ⟨i, j, rfl, li, lj, B4, b34⟩
        refine ifT0 (decide_eq_true (by rw [c4])) ?_
        exact ⟨_, rfl, p, q, rfl, B4, fun z H5 hz B5 b5 => ⟨i, z, rfl, li, low_wild hz, B5, b34.trans b5⟩⟩
      rintro σ H6 ⟨i, j, rfl, li, lj, B6, b6⟩
      -- the word
      refine ⟨(by show 7 ≤ sizeLine; decide), fun l nl => ?_⟩
      have s7 := same_upd (o := .lst [.str "build", .str "build", .str "build", .str "cut", .str "snap", .str "mend", .str "charge"]) nl
      have hl7 := upd_same (H := H6) (a := l) (o := .lst [.str "build", .str "build", .str "build", .str "cut", .str "snap", .str "mend", .str "charge"])
      have B7 := B6.same s7
      have b7 := b6.trans (But.of_same s7)
      have nlp' : l ≠ p := fun z => by
        obtain ⟨o, e⟩ := B6.p_some
        rw [← z, nl] at e; cases e
      generalize upd H6 l (.lst [.str "build", .str "build", .str "build", .str "cut", .str "snap", .str "mend", .str "charge"]) = H7 at *
      refine ⟨_, rfl, p, q, 7, rfl, B7, by omega, by omega, fun z8 H8 d0 d1 B8 b8 => ?_⟩
      have hl8 := b8 _ _ hl7 nlp'
      have b78 := b7.trans b8
      obtain ⟨wd, hwd, isd⟩ : ∃ wd : Str, atI [V.str "build", V.str "build", V.str "build", V.str "cut", V.str "snap", V.str "mend", V.str "charge"] z8 = some (.str wd) ∧ isDeed wd := by
        have : z8 = 0 ∨ z8 = 1 ∨ z8 = 2 ∨ z8 = 3 ∨ z8 = 4 ∨ z8 = 5 ∨ z8 = 6 := by omega
        rcases this with e | e | e | e | e | e | e <;> subst e
        · exact ⟨_, rfl, .inl rfl⟩
        · exact ⟨_, rfl, .inl rfl⟩
        · exact ⟨_, rfl, .inl rfl⟩
        · exact ⟨_, rfl, .inr (.inr (.inl rfl))⟩
        · exact ⟨_, rfl, .inr (.inr (.inr (.inl rfl)))⟩
        · exact ⟨_, rfl, .inr (.inr (.inr (.inr rfl)))⟩
        · exact ⟨_, rfl, .inr (.inl rfl)⟩
      refine ⟨l, _, z8, .str wd, rfl, rfl, SqL.of hl8, hwd, ?_⟩
      -- the price
      refine ⟨_, rfl, _, rfl, _, rfl, _, rfl, p, q, 9, rfl, B8, by omega, by omega, fun z9 H9 e0 e1 B9 b9 => ?_⟩
      refine ⟨_, _, rfl, rfl, _, rfl, p, q, rfl, B9, fun z10 H10 hz10 B10 b10 => ?_⟩
      refine ⟨(by show 5 ≤ sizeLine; decide), fun m nm => ?_⟩
      have s11 := same_upd (o := .lst [.int (1 + z9), .int 0, .int 10, .int 9, .int z10]) nm
      have hm11 := upd_same (H := H10) (a := m) (o := .lst [.int (1 + z9), .int 0, .int 10, .int 9, .int z10])
      have B11 := B10.same s11
      have b11 := ((b78.trans b9).trans b10).trans (But.of_same s11)
      have nmp : m ≠ p := fun z => by
        obtain ⟨o, e⟩ := B10.p_some
        rw [← z, nm] at e; cases e
      generalize upd H10 m (.lst [.int (1 + z9), .int 0, .int 10, .int 9, .int z10]) = H11 at *
      refine ⟨_, rfl, p, q, 9, rfl, B11, by omega, by omega, fun z12 H12 g0 g1 B12 b12' => ?_⟩
      have hm12 := b12' _ _ hm11 nmp
      refine ⟨_, _, rfl, rfl, 0, z12 - 4, rfl, ?_⟩
      obtain ⟨pr, hpr⟩ : ∃ pr : Int, atI [V.int (1 + z9), V.int 0, V.int 10, V.int 9, V.int z10] (if z12 - 4 > 0 then z12 - 4 else 0) = some (.int pr) := by
        have : (if z12 - 4 > 0 then z12 - 4 else 0) = 0 ∨ (if z12 - 4 > 0 then z12 - 4 else 0) = 1 ∨ (if z12 - 4 > 0 then z12 - 4 else 0) = 2 ∨ (if z12 - 4 > 0 then z12 - 4 else 0) = 3 ∨ (if z12 - 4 > 0 then z12 - 4 else 0) = 4 := by split <;> omega
        rcases this with e | e | e | e | e <;> rw [e] <;> exact ⟨_, rfl⟩
      refine ⟨m, _, _, .int pr, rfl, rfl, SqL.of hm12, hpr, (by show 4 ≤ sizeLine; decide), fun d nd => ?_⟩
      have s13 := same_upd (o := .tup [.str wd, .int i, .int j, .int pr]) nd
      have bAll := b11.trans b12'
      refine kk d wd i j pr _ isd li lj ?_ upd_same (B12.same s13) (bAll.trans (But.of_same s13))
      cases e : H d with
      | none => rfl
      | some o =>
        by_cases dp : d = p
        · obtain ⟨o', e'⟩ := B12.p_some
          rw [← dp, nd] at e'; cases e'
        · rw [bAll _ _ e dp] at nd; cases nd
end
end K


/-! ways both ways about, cuts -/
namespace Sw
def Sym (E : List T3) : Prop := ∀ a b c, (a, b, c) ∈ E → (b, a, c) ∈ E
theorem Way.snoc {E : List T3} {g v k c : Nat} (w : Way E g v k c) : ∀ {h p : Nat}, (g, h, p) ∈ E → Way E h v (k + 1) (c + p) := by
  induction w with
  | nil =>
    intro h p m
    have := Way.cons m (Way.nil (E := E) (g := h))
    rw [Nat.add_zero] at this
    rw [Nat.zero_add p]
    exact this
  | @cons a b q k c he _ ih =>
    intro h p m
    have := Way.cons he (ih m)
    rw [← Nat.add_assoc] at this
    exact this
theorem Way.rev {E : List T3} (hs : Sym E) {g v k c : Nat} (w : Way E g v k c) : Way E v g k c := by
  induction w with
  | nil => exact .nil
  | @cons a b p k c he _ ih =>
    have := ih.snoc (hs _ _ _ he)
    rw [Nat.add_comm c p] at this
    exact this
theorem Way.trans {E : List T3} {g v k c : Nat} (w : Way E g v k c) : ∀ {h k' c' : Nat}, Way E h g k' c' → ∃ k2 c2, Way E h v k2 c2 := by
  induction w with
  | nil => intro h k' c' w'; exact ⟨_, _, w'⟩
  | cons he _ ih =>
    intro h k' c' w'
    obtain ⟨k2, c2, w2⟩ := ih w'
    exact ⟨_, _, .cons he w2⟩
theorem far_some {E : List T3} {n g v k c : Nat} {d : Dist} (f : IsFar E n g d) (w : Way E g v k c) : ∃ y, at? d v = some y := by
  obtain ⟨y, e, _⟩ := f.least v k c w c rfl
  exact ⟨y, e⟩
theorem far_sym {E : List T3} {n s g : Nat} {d d' : Dist} (hs : Sym E) (f : IsFar E n g d) (f' : IsFar E n s d') : at? d s = at? d' g := by
  cases e : at? d s with
  | none =>
    cases e' : at? d' g with
    | none => rfl
    | some c =>
      obtain ⟨k, w⟩ := f'.way _ _ e'
      obtain ⟨y, ey⟩ := far_some f (w.rev hs)
      rw [e] at ey
      cases ey
  | some c =>
    obtain ⟨k, w⟩ := f.way _ _ e
    obtain ⟨z, ez, lz⟩ := f'.least _ _ _ (w.rev hs) _ rfl
    obtain ⟨k2, w2⟩ := f'.way _ _ ez
    obtain ⟨z2, ez2, lz2⟩ := f.least _ _ _ (w2.rev hs) _ rfl
    rw [e] at ez2
    cases ez2
    rw [ez]
    congr 1
    omega
theorem wayto_steps {E : List T3} {d : Dist} {g h : Nat} {l : List Nat} (w : WayTo E d g h l) : ∀ (i a b : Nat), l[i]? = some a → l[i + 1]? = some b → ∃ c y, (a, b, c) ∈ E ∧ at? d b = some y ∧ at? d a = some (y + c) := by
  induction w with
  | here => intro i a b h1 h2; simp at h2
  | @step h u l hn hl ih =>
    intro i a b h1 h2
    cases i with
    | zero =>
      simp at h1
      subst h1
      have hb : l[0]? = some b := by simpa using h2
      have hu : l[0]? = some u := by cases hl <;> rfl
      rw [hu] at hb
      cases hb
      exact hn.2.2.1
    | succ i => exact ih i a b (by simpa using h1) (by simpa using h2)
theorem wayto_first {E : List T3} {d : Dist} {g h : Nat} {l : List Nat} (w : WayTo E d g h l) : ∃ r, l = h :: r := by cases w <;> exact ⟨_, rfl⟩
theorem wayto_last {E : List T3} {d : Dist} {g h : Nat} {l : List Nat} (w : WayTo E d g h l) : l[l.length - 1]? = some g := by
  induction w with
  | here => rfl
  | @step h u l hn hl ih =>
    obtain ⟨r, rfl⟩ := wayto_first hl
    exact ih
theorem lot_mem {n : Nat} {d : Dist} {v : Nat} : v ∈ lotOf n d ↔ v < n ∧ ∃ c, at? d v = some c := by
  unfold lotOf
  rw [List.mem_filter, List.mem_range]
  constructor
  · rintro ⟨h1, h2⟩
    exact ⟨h1, Option.isSome_iff_exists.mp h2⟩
  · rintro ⟨h1, c, h2⟩
    exact ⟨h1, by rw [h2]; rfl⟩
theorem range_lt (n : Nat) : (List.range n).Pairwise (· < ·) := List.pairwise_lt_range
theorem lot_sorted (n : Nat) (d : Dist) : (lotOf n d).Pairwise (· < ·) := (range_lt n).sublist List.filter_sublist
end Sw
namespace K
open Sw
theorem both_symS (ts : List T3) : Sym (both ts) := fun a b c m => by
  rcases (both_mem ts _).mp m with q | q
  · exact (both_mem ts _).mpr (.inr q)
  · exact (both_mem ts _).mpr (.inl q)
theorem lft_comm (ts : List T3) (u v : Nat) : lft ts u v = lft ts v u := by
  unfold lft
  congr 1
  funext e
  rw [Bool.or_comm, Bool.and_comm (e.2.1 == u), Bool.and_comm (e.1 == u)]
theorem lft_mem {ts : List T3} {u v : Nat} {e : T3} : e ∈ lft ts u v ↔ e ∈ ts ∧ ¬ (e.1 = u ∧ e.2.1 = v) ∧ ¬ (e.2.1 = u ∧ e.1 = v) := by
  unfold lft
  rw [List.mem_filter]
  constructor
  · rintro ⟨h1, h2⟩
    simp only [Bool.not_eq_true', Bool.or_eq_false_iff, Bool.and_eq_false_imp, beq_iff_eq] at h2
    refine ⟨h1, fun z => ?_, fun z => ?_⟩
    · have := h2.1 z.1
      simp [z.2] at this
    · have := h2.2 z.1
      simp [z.2] at this
  · rintro ⟨h1, h2, h3⟩
    refine ⟨h1, ?_⟩
    simp only [Bool.not_eq_true', Bool.or_eq_false_iff, Bool.and_eq_false_imp, beq_iff_eq]
    refine ⟨fun z => ?_, fun z => ?_⟩
    · simp; exact fun q => h2 ⟨z, q⟩
    · simp; exact fun q => h3 ⟨z, q⟩
/-- the pair of houses of a tie -/
def pr (e : T3) : Nat × Nat := (e.1, e.2.1)
theorem filter_one {α β : Type} {f : α → β} {p : α → Bool} : ∀ {ts : List α} {e : α}, (ts.map f).Nodup → e ∈ ts → (∀ t ∈ ts, p t = true ↔ f t = f e) → ts.filter p = [e]
  | t :: ts, e, nd, m, hp => by
    rw [List.map_cons, List.nodup_cons] at nd
    rcases List.mem_cons.mp m with q | q
    · subst q
      have h1 : p e = true := (hp e List.mem_cons_self).mpr rfl
      rw [List.filter_cons, if_pos h1]
      congr 1
      rw [List.filter_eq_nil_iff]
      intro t ht z
      exact nd.1 (by rw [← (hp t (List.mem_cons_of_mem _ ht)).mp z]; exact List.mem_map_of_mem ht)
    · have h1 : ¬ p t = true := fun z => nd.1 (by rw [(hp t List.mem_cons_self).mp z]; exact List.mem_map_of_mem q)
      rw [List.filter_cons, if_neg h1]
      exact filter_one nd.2 q fun t ht => hp t (List.mem_cons_of_mem _ ht)
/-- the ties between two houses -/
theorem ties_of {ts : List T3} {n u v c : Nat} (hG : Good n ts) (nd : (ts.map pr).Nodup) (m : (u, v, c) ∈ both ts) : ts.filter (fun e => decide (e.1 = min u v ∧ e.2.1 = max u v)) = [(min u v, max u v, c)] := by
  rcases (both_mem ts _).mp m with q | q
  · have hg := hG _ q
    have hg1 : u < v := hg.1
    have e1 : min u v = u := Nat.min_eq_left (Nat.le_of_lt hg1)
    have e2 : max u v = v := Nat.max_eq_right (Nat.le_of_lt hg1)
    rw [e1, e2]
    refine filter_one nd q fun t ht => ?_
    rw [decide_eq_true_eq]
    unfold pr
    simp only [Prod.mk.injEq]
  · have hg := hG _ q
    have hg1 : v < u := hg.1
    have e1 : min u v = v := Nat.min_eq_right (Nat.le_of_lt hg1)
    have e2 : max u v = u := Nat.max_eq_left (Nat.le_of_lt hg1)
    rw [e1, e2]
    refine filter_one nd q fun t ht => ?_
    rw [decide_eq_true_eq]
    unfold pr
    simp only [Prod.mk.injEq]
/-- out of the lot only the tie itself leads -/
theorem cut_out {ts : List T3} {n : Nat} {e : T3} (hG : Good n ts) (nd : (ts.map pr).Nodup) (he : e ∈ ts) (h0 : at? (farD n (lft ts e.1 e.2.1) e.1) e.2.1 = none) :
    ts.filter (fun t => decide (decide (t.1 ∈ lotOf n (farD n (lft ts e.1 e.2.1) e.1)) ≠ decide (t.2.1 ∈ lotOf n (farD n (lft ts e.1 e.2.1) e.1)))) = [e] := by
  have hg := hG _ he
  have hF : Fits n (lft ts e.1 e.2.1) := lft_fits hG.fits
  have f := farD_is (g := e.1) hF (by omega)
  have h1 : e.1 ∈ lotOf n (farD n (lft ts e.1 e.2.1) e.1) := lot_mem.mpr ⟨by omega, 0, far_goal f⟩
  have h2 : ¬ e.2.1 ∈ lotOf n (farD n (lft ts e.1 e.2.1) e.1) := fun z => by
    obtain ⟨_, c, ec⟩ := lot_mem.mp z
    rw [h0] at ec
    cases ec
  refine filter_one nd he fun t ht => ?_
  rw [decide_eq_true_eq]
  constructor
  · intro hne
    apply Classical.byContradiction
    intro hp
    have hgt := hG _ ht
    have ml : t ∈ lft ts e.1 e.2.1 := lft_mem.mpr ⟨ht, fun z => hp (by unfold pr; rw [z.1, z.2]), fun z => by omega⟩
    apply hne
    rw [decide_eq_decide, lot_mem, lot_mem]
    have m1 : (t.1, t.2.1, t.2.2) ∈ both (lft ts e.1 e.2.1) := (both_mem _ _).mpr (.inl ml)
    constructor
    · rintro ⟨_, c, ec⟩
      obtain ⟨k, w⟩ := f.way _ _ ec
      exact ⟨by omega, far_some f (.cons (both_symS _ _ _ _ m1) w)⟩
    · rintro ⟨_, c, ec⟩
      obtain ⟨k, w⟩ := f.way _ _ ec
      exact ⟨by omega, far_some f (.cons m1 w)⟩
  · intro hp
    have e1 : t.1 = e.1 := congrArg (fun q : Nat × Nat => q.1) hp
    have e2 : t.2.1 = e.2.1 := congrArg (fun q : Nat × Nat => q.2) hp
    rw [e1, e2, decide_eq_true h1, decide_eq_false h2]
    exact fun z => by cases z
/-- what the other end can come to lies outside the lot -/
theorem cut_apart {ts : List T3} {n u v h : Nat} (hF : Fits n ts) (hu : u < n) (hv : v < n) (h0 : at? (farD n ts u) v = none) (m : h ∈ lotOf n (farD n ts v)) : ¬ h ∈ lotOf n (farD n ts u) := fun z => by
  have fu := farD_is hF hu
  have fv := farD_is hF hv
  obtain ⟨_, c, ec⟩ := lot_mem.mp m
  obtain ⟨_, c', ec'⟩ := lot_mem.mp z
  obtain ⟨k, w⟩ := fv.way _ _ ec
  obtain ⟨k', w'⟩ := fu.way _ _ ec'
  obtain ⟨k2, c2, w2⟩ := (w.rev (both_symS ts)).trans w'
  obtain ⟨y, ey⟩ := far_some fu w2
  rw [h0] at ey
  cases ey
/-- the pairs of houses, in the order in which the law draws them -/
def rowP (i m : Nat) : List (Nat × Nat) := (List.range m).map fun t => (i, i + 1 + t)
def pairsL (n : Nat) : List (Nat × Nat) := (List.range n).flatMap fun i => rowP i (n - (i + 1))
theorem pairsL_nodup : ∀ n ≤ 8, (pairsL n).Nodup := by decide +kernel
theorem pairsL_len : ∀ n ≤ 8, (pairsL n).length ≤ 64 := by decide +kernel
theorem pairsL_mem {n : Nat} {p : Nat × Nat} (h : p ∈ pairsL n) : p.1 < p.2 ∧ p.2 < n := by
  unfold pairsL rowP at h
  obtain ⟨i, hi, hp⟩ := List.mem_flatMap.mp h
  obtain ⟨t, ht, e⟩ := List.mem_map.mp hp
  subst e
  have h1 := List.mem_range.mp hi
  have h2 := List.mem_range.mp ht
  show i < i + 1 + t ∧ i + 1 + t < n
  omega
end K

namespace K
open PySem PySem.Spec PyProof.Rows L2
open Sw (T3 Dist at? relax roundOf rounds)
abbrev sPairs : Stmt := top 70
section
variable {P : Program} {w : World} {K : PySem.W.Frag} {mg : Str → Option Value} {base : Heap}
theorem scPairs : FnScope ["_law_many", "_law_one", "_law_other"] ["_law_many"] (defScope sPairs) := ⟨rfl, rfl, rfl, by decide +kernel, rfl, by decide +kernel, by decide +kernel⟩
def scIn : Scope := { kind := .function, names := [(".0", .local), ("_law_one", .cell), ("range", .globalImplicit), ("_law_many", .cell)], isGenerator := false, isCoroutine := false }
def PairsP (H : Hp) (as : List Addr) (ps : List (Nat × Nat)) : Prop := Paired (fun a p => H a = some (.tup [.int (p.1 : Nat), .int (p.2 : Nat)])) as ps
theorem PairsP.at {H H' : Hp} {as : List Addr} {ps : List (Nat × Nat)} (h : PairsP H as ps) (k : ∀ a ys, H a = some (.tup ys) → H' a = some (.tup ys)) : PairsP H' as ps := paired_mono (fun a p q => k _ _ q) h
def spPairsD : Sp := fun vs H Q _ => ∃ n : Nat, vs = [.int (n : Nat)] ∧ 0 < n ∧ n ≤ 8 ∧ ∀ (p : Addr) (H' : Hp) (as : List Addr), H p = none → Same H H' → H' p = some (.lst (as.map V.ref)) → PairsP H' as (pairsL n) → Q (.ref p) H'
theorem ok_pairsD {f : Addr} {fd : FuncData} {k : Nat} (F : Fun K "_law_pairs" "_law_pairs" sPairs f fd) (msum : mg "sum" = none) (mr : mg "range" = none) : FnOk P w K mg base CX0 (k + 1) f fd ["_law_many"] spPairsD := by
  refine F.ok scPairs (fun vs H Q E h => ?_) (fun cdv A outer s H vs Q E hr h => ?_)
  · obtain ⟨n, rfl, _⟩ := h
    rfl
  · obtain ⟨n, rfl, h0, h8, kk⟩ := h
    refine ⟨_, pss_one (ps_ret (pe_callB (cr_sumL rfl) (by rfl) msum (by decide +kernel) (pa_cons
      (pe_lc (own := [("_law_one", 1)]) (g := gName 1) (tt := tYes) rfl scPairs.nd (pi_range1 rfl mr (pa_cons (pv 0) pa_nil)) (blkOk_by (own := [("_law_one", 1)]) (N := ["_law_many", "_law_one", "_law_other"]) (sc := defScope sPairs) (by decide +kernel))
        (fun _ _ _ _ _ => by exact (pg_name (i := 1) scPairs.nd rfl (Or.inr rfl))) (fun _ _ _ _ _ => pts_nil)
        (fun _ _ _ _ _ => pe_lc (own := [("_law_other", 2)]) (g := gName 2) (tt := tYes) rfl scPairs.nd (by exact (pi_range2 (by rfl) mr (pa_cons (pe_op op_add (pv 1) pe_int) (pa_cons (pv 0) pa_nil)))) (blkOk_by (own := [("_law_other", 2)]) (N := ["_law_many", "_law_one", "_law_other"]) (sc := scIn) (by decide +kernel))
          (fun _ _ _ _ _ => by exact (pg_name (i := 2) scPairs.nd rfl (Or.inl rfl))) (fun _ _ _ _ _ => pts_nil)
          (fun _ _ _ _ _ => by exact (pe_tup (pa_cons (pv 1) (pa_cons (pv 2) pa_nil)))))) (pa_cons (pe_lst pa_nil) pa_nil)))), ?_⟩
    refine ⟨_, rfl, n, rfl, by omega, by omega, fun D nD => ?_⟩
    refine lc_range (lo := 0) (n := n) (fun i H' => Same H H' ∧ ∃ (ls : List Addr) (ass : List (List Addr)), H' D = some (.lst (ls.map V.ref)) ∧ ls.length = i ∧ Paired (fun l as => l ≠ D ∧ H' l = some (.lst (as.map V.ref))) ls ass ∧ PairsP H' ass.flatten ((List.range i).flatMap fun i => rowP i (n - (i + 1))) ∧ ∀ as ∈ ass, as.length ≤ n)
      ⟨same_upd nD, [], [], upd_same, rfl, .nil, .nil, fun xs m => by cases m⟩ ?_ ?_
    · rintro i H1 hi ⟨s1, ls, ass, hD, hl, hp, hx, hz⟩
      refine ⟨rfl, ?_⟩
      refine ⟨_, rfl, _, _, rfl, rfl, _, rfl, _, _, rfl, ⟨by omega, by omega, by omega, by omega⟩, fun D2 nD2 => ?_⟩
      have nDD : D ≠ D2 := ne_of_none hD nD2
      have hw : ((n : Int) - (0 + (i : Int) + 1)).toNat = n - (i + 1) := by omega
      refine lc_range (fun j H2 => Same H1 H2 ∧ ∃ as : List Addr, H2 D2 = some (.lst (as.map V.ref)) ∧ as.length = j ∧ PairsP H2 as (rowP i j)) ⟨same_upd nD2, [], upd_same, rfl, .nil⟩ ?_ ?_
      · rintro j H2 hj ⟨s2, as, hD2, hxl, hxs⟩
        refine ⟨rfl, ?_⟩
        refine ⟨_, rfl, _, rfl, (by show 2 ≤ sizeLine; decide), fun t nt => ?_⟩
        have s3 := same_upd (o := .tup [.int (0 + (i : Int)), .int (0 + (i : Int) + 1 + (j : Int))]) nt
        have ntD : t ≠ D2 := Ne.symm (ne_of_none hD2 nt)
        refine ⟨_, s3 _ _ hD2, by rw [List.length_map, hxl]; exact small1000 (by omega), fun b o e => ?_, as ++ [t], ?_, by rw [List.length_append, hxl]; rfl, ?_⟩
        · rw [upd_ne (ne_of_none e nD2)]
          exact s3 _ _ (s2 _ _ e)
        · rw [upd_same, List.map_append] <;> rfl
        · have keep : ∀ a ys, H2 a = some (.tup ys) → (upd (upd H2 t (.tup [.int (0 + (i : Int)), .int (0 + (i : Int) + 1 + (j : Int))])) D2 (.lst (as.map V.ref ++ [.ref t]))) a = some (.tup ys) := fun a ys e => by
            rw [upd_ne (ne_of e hD2 (fun z => by cases z))]
            exact s3 _ _ e
          have er : rowP i (j + 1) = rowP i j ++ [(i, i + 1 + j)] := by
            unfold rowP
            rw [List.range_succ, List.map_append]
            rfl
          rw [er]
          refine paired_append (hxs.at keep) (.cons ?_ .nil)
          show (upd (upd H2 t (.tup [.int (0 + (i : Int)), .int (0 + (i : Int) + 1 + (j : Int))])) D2 (.lst (as.map V.ref ++ [.ref t]))) t = some (.tup [.int ((i : Nat) : Int), .int ((i + 1 + j : Nat) : Int)])
          rw [upd_ne ntD, upd_same]
          have e1 : (0 + (i : Int)) = ((i : Nat) : Int) := by omega
          have e2 : (0 + (i : Int) + 1 + (j : Int)) = ((i + 1 + j : Nat) : Int) := by omega
          rw [e2, e1]
      · rintro H2 ⟨s2, as, hD2, hxl, hxs⟩
        rw [hw] at hxs hxl
        have keep : ∀ a ys, H2 a = some (.tup ys) → (upd H2 D (.lst (ls.map V.ref ++ [.ref D2]))) a = some (.tup ys) := fun a ys e => by
          rw [upd_ne (ne_of e (s2 _ _ hD) (fun z => by cases z))]
          exact e
        refine ⟨_, s2 _ _ hD, by rw [List.length_map, hl]; exact small1000 (by omega), fun b o e => ?_, ls ++ [D2], ass ++ [as], ?_, by rw [List.length_append, hl]; rfl, ?_, ?_, fun ys m => ?_⟩
        · rw [upd_ne (ne_of_none e nD)]
          exact s2 _ _ (s1 _ _ e)
        · rw [upd_same, List.map_append] <;> rfl
        · refine paired_append (paired_mono (fun l zs q => ⟨q.1, by rw [upd_ne q.1]; exact s2 _ _ q.2⟩) hp) (.cons ⟨Ne.symm nDD, ?_⟩ .nil)
          rw [upd_ne (Ne.symm nDD)]
          exact hD2
        · rw [List.flatten_append, List.range_succ, List.flatMap_append, List.flatMap_singleton, List.flatten_singleton]
          exact paired_append ((hx.at fun a zs e => s2 _ _ e).at keep) (hxs.at keep)
        · rcases List.mem_append.mp m with q | q
          · exact hz ys q
          · simp at q
            subst q
            omega
    · rintro H1 ⟨s1, ls, ass, hD, hl, hp, hx, hz⟩
      refine ⟨Nat.zero_le _, fun z nz => ?_⟩
      have s2 := same_upd (o := .lst []) nz
      have hxl : ass.length = n := by rw [← hl]; exact (paired_len hp).symm
      have hfl := flat_len (n := n) hz
      have hb : ass.length * n ≤ 8 * 8 := by rw [hxl]; exact Nat.mul_le_mul h8 h8
      have ef : (ass.map (List.map V.ref)).flatten = ass.flatten.map V.ref := by rw [List.map_flatten]
      have hlen : (ass.map (List.map V.ref)).flatten.length = ass.flatten.length := by rw [ef, List.length_map]
      have hp2 : Paired (fun l xs => H1 l = some (.lst xs)) ls (ass.map (List.map V.ref)) := by
        clear hl hx hxl hfl hb ef hlen hz hD
        induction hp with
        | nil => exact .nil
        | cons r _ ih => exact .cons r.2 ih
      refine ⟨D, z, ls, ass.map (List.map V.ref), [], rfl, s2 _ _ hD, upd_same, paired_mono (fun l xs q => s2 _ _ q) hp2, fun e => by rw [e] at hl; simp at hl; omega, ?_, fun p np => ?_⟩
      · exact Nat.le_of_lt (small1000 (by rw [hlen]; show 0 + ass.flatten.length ≤ 1000; omega))
      · have s3 := same_upd (o := .lst ([] ++ (ass.map (List.map V.ref)).flatten)) np
        refine kk p _ ass.flatten (s1.free (s2.free np)) (s1.trans (s2.trans s3)) (by rw [upd_same, List.nil_append, ef]) ((hx.at fun a ys e => s2 _ _ e).at fun a ys e => s3 _ _ e)
end
end K

namespace K
open PySem PySem.Spec PyProof.Rows L2
open Sw (T3 Dist at? relax roundOf rounds)
abbrev sShuf : Stmt := top 71
section
variable {P : Program} {w : World} {K : PySem.W.Frag} {mg : Str → Option Value} {base : Heap}
theorem scShuf : FnScope ["_law_box_here", "_law_some", "_law_found", "_law_one"] ["_law_box_here", "_law_some"] (defScope sShuf) := ⟨rfl, rfl, rfl, by decide +kernel, rfl, by decide +kernel, by decide +kernel⟩
theorem perm_put {α : Type} (ys : List α) (k : Nat) (y : α) : (ys.take k ++ [y] ++ ys.drop k).Perm (ys ++ [y]) := by
  have h1 : (ys.take k ++ [y] ++ ys.drop k).Perm (ys.take k ++ (ys.drop k ++ [y])) := by
    rw [List.append_assoc]
    exact List.Perm.append_left _ List.perm_append_comm
  rw [← List.append_assoc, List.take_append_drop] at h1
  exact h1
theorem ok_shuf {f fT : Addr} {fd fdT : FuncData} {k : Nat} (F : Fun K "_law_shuffled" "_law_shuffled" sShuf f fd) (FT : Fun K "_law_take" "_law_take" sTake fT fdT) (gT : mg "_law_take" = some (.ref fT)) (bT : Binds K fdT ["_law_box_here", "_law_sides"] []) (mlen : mg "len" = none) :
    FnOk P w K mg base CX0 (k + 2) f fd ["_law_box_here", "_law_some"] spShuf := by
  have GT : FnOk P w K mg base CX0 (k + 1) fT fdT ["_law_box_here", "_law_sides"] spTake := ok_take FT mlen
  refine F.ok scShuf (fun vs H Q E h => ?_) (fun cdv A outer s H vs Q E hr h => ?_)
  · obtain ⟨p, q, t, xs, rfl, _⟩ := h
    rfl
  · obtain ⟨p, q, t, xs, rfl, hB, htp, ht, hlen, kk⟩ := h
    refine ⟨_, pss_cons (ps_set (i := 2) scShuf.nd rfl (.inl rfl) (pe_lst pa_nil))
      (pss_cons (ps_for PassesOwn.never rfl (pi_list (pv 1)) (pg_name (i := 3) scShuf.nd rfl (Or.inl rfl))
        (pss_one (ps_expr (pe_bm PySem.F.plainAttrs_list PySem.F.slot_list_insert PySem.F.type_list_insert mt_insert (pv 2)
          (pa_cons (pe_call GT hr (by rfl) gT FT.kp bT .nil pass0 (pa_cons (pv 0) (pa_cons (pe_op op_add (pe_callB call_len_seq (by rfl) mlen PySem.boot_len (pa_cons (pv 2) pa_nil)) pe_int) pa_nil))) (pa_cons (pv 3) pa_nil))))))
      (pss_one (ps_ret (pv 2)))), ?_⟩
    refine ⟨Nat.zero_le _, fun r nr => ?_⟩
    obtain ⟨op, ep⟩ := hB.p_some
    obtain ⟨oq, eq⟩ := hB.q_some
    have nrp : r ≠ p := Ne.symm (ne_of_none ep nr)
    have nrq : r ≠ q := Ne.symm (ne_of_none eq nr)
    have nrt : r ≠ t := Ne.symm (ne_of_none ht nr)
    have s1 := same_upd (o := .lst []) nr
    refine ⟨_, rfl, t, rfl, ⟨_, SqL.of (s1 _ _ ht)⟩, for_list (K := K) (a := t) (xs := xs) (fun i σ H' => ∃ y3 ys, σ = [some (.ref p), some (.ref t), some (.ref r), y3] ∧ BoxAt H' p q ∧ But p H H' ∧ H' r = some (.lst ys) ∧ ys.Perm (xs.take i))
      ⟨none, [], rfl, hB.same s1, But.of_same s1, upd_same, List.Perm.refl _⟩ (fun i σ H' _ ⟨_, _, _, _, b, _⟩ => SqL.of (b _ _ ht htp)) ?_ ?_⟩
    · rintro i y σ H' hi ⟨y3, ys, rfl, B1, b1, hr1, hperm⟩
      have hyl : ys.length ≤ 1000 := by rw [hperm.length_eq, List.length_take]; omega
      refine ⟨_, rfl, .inl ⟨rfl, _, SqL.of hr1⟩, _, rfl, _, rfl, r, _, rfl, .inl (SqL.of hr1), _, _, rfl, rfl, p, q, _, rfl, B1, by omega, by omega, fun z H2 hz0 hz1 B2 b2 => ?_⟩
      have hr2 := b2 _ _ hr1 nrp
      refine ⟨_, rfl, r, ys, z, y, rfl, rfl, hr2, small1000 hyl, hz0, by omega, ?_⟩
      refine ⟨_, _, rfl, B2.put nrp nrq, fun b o e hb => ?_, upd_same, ?_⟩
      · rw [upd_ne (ne_of_none e nr)]
        exact b2 _ _ (b1 _ _ e hb) hb
      · rw [take_succ_of hi]
        exact (perm_put ys z.toNat y).trans (hperm.append_right [y])
    · rintro σ H' ⟨y3, ys, rfl, B1, b1, hr1, hperm⟩
      rw [List.take_length] at hperm
      exact ⟨_, rfl, kk r H' ys nr B1 b1 hr1 hperm⟩
end
end K

namespace K
open PySem PySem.Spec PyProof.Rows L2 LamX
abbrev sWhy : Stmt := top 69
/-- one clause of _law_why: its class, its word, the fields that it tells -/
def clF (K : PySem.W.Frag) (wd : Str) (fs : List Str) : Addr → Value → Option Addr → TS := fun a cls d => tLen 2 (tRet (tTup (tCons (tC (.str wd)) (fs.foldr (fun f t => tCons (tXg K a cls d f (tVar 1)) t) tNil))))
def clW (K : PySem.W.Frag) : Addr → Value → Option Addr → TS := fun a cls d => tLen 2 (tRet (tTup (tCons (tXg K a cls d "word" (tVar 1)) tNil)))
def whyL (K : PySem.W.Frag) (CH CT CM CU CO CL CS : Addr) : List Cl := [⟨.ref CH, some 1, clF K "nohouse" ["house"]⟩, ⟨.ref CT, some 1, clF K "notie" ["one", "other"]⟩, ⟨.ref CM, some 1, clF K "toomany" ["bound"]⟩, ⟨.ref CU, some 1, clF K "notunnel" ["number"]⟩, ⟨.ref CO, some 1, clF K "short" ["house"]⟩, ⟨.ref CL, some 1, clF K "lone" ["lot"]⟩, ⟨.ref CS, some 1, clW K⟩]
/-- what is wished of a refusal: the tuple that its clause tells -/
def Ewhy (K : PySem.W.Frag) (CH CT CM CU CO CL CS : Addr) (D : Ends) : XK := fun cls d H' => ∀ σ' : L2.St, wMix K (fun _ _ _ _ => False) D (whyL K CH CT CM CU CO CL CS) cls d σ' H'
/-- _law_why(lambda: e) by e's own reading tl -/
def TTwhy (K : PySem.W.Frag) (CH CT CM CU CO CL CS : Addr) : (XK → Hp → VK → Prop) → Hp → VK → Prop := fun tl H Q =>
  tl (Ewhy K CH CT CM CU CO CL CS { nx := fun _ H' => Q .non H', rt := Q }) H (fun v H' => [V.str "told", v].length ≤ sizeLine ∧ ∀ p, H' p = none → Q (.ref p) (upd H' p (.tup [.str "told", v])))
section
variable {P : Program} {w : World} {K : PySem.W.Frag} {mg : Str → Option Value} {base : Heap}
theorem scWhy : FnScope ["_law_ask", "e"] ["_law_ask"] (defScope sWhy) := ⟨rfl, rfl, rfl, by decide +kernel, rfl, by decide +kernel, by decide +kernel⟩
/-- the seven classes' names stand for them -/
structure WhyT (mg : Str → Option Value) (CH CT CM CU CO CL CS : Addr) : Prop where
  h : mg "NoHouse" = some (.ref CH)
  t : mg "NoTie" = some (.ref CT)
  m : mg "TooMany" = some (.ref CM)
  u : mg "NoTunnel" = some (.ref CU)
  o : mg "Short" = some (.ref CO)
  l : mg "Lone" = some (.ref CL)
  s : mg "SlipError" = some (.ref CS)
theorem why_gives {X : Cx} {g CH CT CM CU CO CL CS : Addr} {cdg : Value} {q : Str} (W : WhyT X.mg CH CT CM CU CO CL CS) :
    GivesTo X ["_law_ask", "e"] "_law_why" (defScope sWhy) g cdg (defBody sWhy) "_law_ask" q (TTwhy X.K CH CT CM CU CO CL CS) := by
  intro f c' s H Q tl act hc h
  refine ⟨_, pss_one (ps_try_mix (X := (cxOf C8.CX0 X.prog X.w X.K X.mg X.base ["_law_ask", "e"] "_law_why" (defScope sWhy) g cdg X.A X.stack s H C8.E0).nox) (l := whyL X.K CH CT CM CU CO CL CS) (Wout := fun _ _ _ _ => False)
      (tb := fun W D σ H => ∃ Ech : XK, (∀ cls d σ' H', Ech cls d H' → W cls d σ' H') ∧ σ[0]? = some (some (.ref f)) ∧ H c' = some (CodeO c' q) ∧ tl Ech H (fun v H' => [V.str "told", v].length ≤ sizeLine ∧ ∀ p, H' p = none → D.rt (.ref p) (upd H' p (.tup [.str "told", v]))))
      rfl rfl L2.takes0 (fun W pn xe tk _ => ?_)
      (MixOk.as (i := 1) (c := .ref CH) (ts := clF X.K "nohouse" ["house"]) scWhy.nd rfl rfl ⟨rfl, by decide, Or.inl W.h⟩ (fun a oe cls d pn hz hf => pss_len (pss_one (ps_ret (pe_tup (pa_cons pe_str (pa_cons (pe_xg hz hf (pv 1)) pa_nil))))) rfl)
      (MixOk.as (i := 1) (c := .ref CT) (ts := clF X.K "notie" ["one", "other"]) scWhy.nd rfl rfl ⟨rfl, by decide, Or.inl W.t⟩ (fun a oe cls d pn hz hf => pss_len (pss_one (ps_ret (pe_tup (pa_cons pe_str (pa_cons (pe_xg hz hf (pv 1)) (pa_cons (pe_xg hz hf (pv 1)) pa_nil)))))) rfl)
      (MixOk.as (i := 1) (c := .ref CM) (ts := clF X.K "toomany" ["bound"]) scWhy.nd rfl rfl ⟨rfl, by decide, Or.inl W.m⟩ (fun a oe cls d pn hz hf => pss_len (pss_one (ps_ret (pe_tup (pa_cons pe_str (pa_cons (pe_xg hz hf (pv 1)) pa_nil))))) rfl)
      (MixOk.as (i := 1) (c := .ref CU) (ts := clF X.K "notunnel" ["number"]) scWhy.nd rfl rfl ⟨rfl, by decide, Or.inl W.u⟩ (fun a oe cls d pn hz hf => pss_len (pss_one (ps_ret (pe_tup (pa_cons pe_str (pa_cons (pe_xg hz hf (pv 1)) pa_nil))))) rfl)
      (MixOk.as (i := 1) (c := .ref CO) (ts := clF X.K "short" ["house"]) scWhy.nd rfl rfl ⟨rfl, by decide, Or.inl W.o⟩ (fun a oe cls d pn hz hf => pss_len (pss_one (ps_ret (pe_tup (pa_cons pe_str (pa_cons (pe_xg hz hf (pv 1)) pa_nil))))) rfl)
      (MixOk.as (i := 1) (c := .ref CL) (ts := clF X.K "lone" ["lot"]) scWhy.nd rfl rfl ⟨rfl, by decide, Or.inl W.l⟩ (fun a oe cls d pn hz hf => pss_len (pss_one (ps_ret (pe_tup (pa_cons pe_str (pa_cons (pe_xg hz hf (pv 1)) pa_nil))))) rfl)
      (MixOk.as (i := 1) (c := .ref CS) (ts := clW X.K) scWhy.nd rfl rfl ⟨rfl, by decide, Or.inl W.s⟩ (fun a oe cls d pn hz hf => pss_len (pss_one (ps_ret (pe_tup (pa_cons (pe_xg hz hf (pv 1)) pa_nil)))) rfl) .nil)))))))), ?_⟩
  · refine ⟨fun pins s' σ H' D I h' => ?_⟩
    obtain ⟨Ech, hW, h1, h2, h3⟩ := h'
    exact (pss_one (ps_ret (pe_tup (pa_cons pe_str (pa_cons (act W pn xe Ech _ _ tk hW) pa_nil))))).run pins s' σ H' D I ⟨h1, h2, h3⟩
  · exact ⟨Ewhy X.K CH CT CM CU CO CL CS _, fun cls d σ' H' e => e σ', rfl, hc, h⟩
end
end K


namespace K
open PySem PySem.Spec PyProof.Rows L2
abbrev sRangesL : Stmt := top 72
def spRangesL : Sp := fun vs H Q _ => ∃ (p q : Addr) (n : Nat) (wide : Int), vs = [.ref p, .int (n : Nat), .int wide] ∧ BoxAt H p q ∧ n ≤ 9 ∧ (wide = 0 ∨ wide = 9) ∧
  ∀ (l : Addr) (rs : List (Int × Int)) (H' : Hp), rs.length = n → (∀ r ∈ rs, goodR r.1 r.2) → H l = none → RangesAt H' l rs → BoxAt H' p q → But p H H' → Q (.ref l) H'
theorem BoxAt.p_not {H : Hp} {p q : Addr} {xs : List V} (B : BoxAt H p q) (h : H p = some (.tup xs)) : False := by
  obtain ⟨ms, i, t, s, h1, _⟩ := B
  rw [h] at h1
  cases h1
theorem RangesAt.but {H H' : Hp} {l p : Addr} {rs : List (Int × Int)} {o : HO} (h : RangesAt H l rs) (b : But p H H') (hp : H p = some o) (ho : ∀ xs, o ≠ .tup xs) (hl : l ≠ p) : RangesAt H' l rs := by
  obtain ⟨ts, h1, h2⟩ := h
  refine ⟨ts, b _ _ h1 hl, paired_mono (fun t r q => b _ _ q (fun z => ?_)) h2⟩
  rw [z, hp] at q
  exact ho _ (Option.some.inj q)
theorem RangesAt.same {H H' : Hp} {l : Addr} {rs : List (Int × Int)} (h : RangesAt H l rs) (s : Same H H') : RangesAt H' l rs := by
  obtain ⟨ts, h1, h2⟩ := h
  exact ⟨ts, s _ _ h1, paired_mono (fun t r q => s _ _ q) h2⟩
section
variable {P : Program} {w : World} {K : PySem.W.Frag} {mg : Str → Option Value} {base : Heap}
theorem scRangesL : FnScope ["_law_box_here", "_law_many", "_law_wide", "_law_found", "_law_h", "_law_low"] ["_law_box_here", "_law_many", "_law_wide"] (defScope sRangesL) := ⟨rfl, rfl, rfl, by decide +kernel, rfl, by decide +kernel, by decide +kernel⟩
theorem ok_rangesL {f fT : Addr} {fd fdT : FuncData} {k : Nat} (F : Fun K "_law_ranges" "_law_ranges" sRangesL f fd) (T : BT mg) (c_law_take : Cal P w K mg base (k + 1) "_law_take" fT fdT ["_law_box_here", "_law_sides"] spTake) : FnOk P w K mg base CX0 (k + 2) f fd ["_law_box_here", "_law_many", "_law_wide"] spRangesL := by
  refine F.ok scRangesL (fun vs H Q E h => ?_) (fun cdv A outer s H vs Q E hr h => ?_)
  · obtain ⟨p, q, n, wide, rfl, _⟩ := h
    rfl
  · obtain ⟨p, q, n, wide, rfl, hB, hn, hw, kk⟩ := h
    refine ⟨_, (pss_cons (ps_set (i := 3) scRangesL.nd rfl (.inl rfl) (pe_lst pa_nil))
      (pss_cons (ps_for PassesOwn.never rfl (pi_range1 (by rfl) T.range (pa_cons (pv 1) pa_nil)) (pg_name (i := 4) scRangesL.nd rfl (Or.inl rfl))
        (pss_cons (ps_set (i := 5) scRangesL.nd rfl (.inl rfl) (pe_op op_add pe_int (pe_call c_law_take.ok hr (by rfl) c_law_take.g c_law_take.kp c_law_take.b .nil pass0 (pa_cons (pv 0) (pa_cons (pe_ix (r := rIxL K) ix_list (pe_lst (pa_cons pe_int (pa_cons pe_int (pa_cons pe_int pa_nil)))) (pe_call c_law_take.ok hr (by rfl) c_law_take.g c_law_take.kp c_law_take.b .nil pass0 (pa_cons (pv 0) (pa_cons pe_int pa_nil))) (fun _ _ => rfl)) pa_nil)))))
        (pss_one (ps_expr (pe_bm PySem.F.plainAttrs_list PySem.F.slot_list_append PySem.F.type_list_append mt_append (pv 3) (pa_cons (pe_tup (pa_cons (pv 5) (pa_cons (pe_op op_add (pv 5) (pe_ifExp (pt_cmpR op_eq (pv 2) pe_int (nomark _)) (pe_call c_law_take.ok hr (by rfl) c_law_take.g c_law_take.kp c_law_take.b .nil pass0 (pa_cons (pv 0) (pa_cons pe_int pa_nil))) (pe_op op_add (pv 2) (pe_call c_law_take.ok hr (by rfl) c_law_take.g c_law_take.kp c_law_take.b .nil pass0 (pa_cons (pv 0) (pa_cons pe_int pa_nil)))))) pa_nil))) pa_nil))))))
      (pss_one (ps_ret (pv 3))))), ?_⟩
    refine ⟨(by show 0 ≤ sizeLine; decide), fun l nl => ?_⟩
    have s0 := same_upd (o := .lst []) nl
    obtain ⟨op, ep⟩ := hB.p_some
    have nlp : l ≠ p := Ne.symm (ne_of_none ep nl)
    obtain ⟨oq, eq⟩ := hB.q_some
    have nlq : l ≠ q := Ne.symm (ne_of_none eq nl)
    refine ⟨_, rfl, (n : Nat), rfl, by omega, by omega, for_range (n := n) (fun i σ H' => (∃ y4 y5, σ = [some (.ref p), some (.int (n : Nat)), some (.int wide), some (.ref l), y4, y5]) ∧ BoxAt H' p q ∧ But p H H' ∧ ∃ (ts : List Addr) (rs : List (Int × Int)), rs.length = i ∧ H' l = some (.lst (ts.map V.ref)) ∧ (∀ r ∈ rs, goodR r.1 r.2) ∧ Paired (fun t (r : Int × Int) => H' t = some (.tup [.int r.1, .int r.2])) ts rs)
      ⟨⟨_, _, rfl⟩, hB.same s0, But.of_same s0, [], [], rfl, upd_same, (fun r m => by cases m), .nil⟩ ?_ ?_⟩
    · rintro i σ H1 hi ⟨⟨y4, y5, rfl⟩, B1, b1, ts, rs, lr, hl1, hg, hp⟩
      have lts : ts.length = rs.length := paired_len hp
      obtain ⟨o1, e1⟩ := B1.p_some
      refine ⟨_, rfl, (by show 3 ≤ sizeLine; decide), fun l2 nl2 => ?_⟩
      have s2 := same_upd (o := .lst [.int 3, .int 40, .int 9930]) nl2
      have n2p : l2 ≠ p := Ne.symm (ne_of_none e1 nl2)
      refine ⟨_, rfl, p, q, 3, rfl, B1.same s2, by omega, by omega, fun z H2 hz0 hz1 B2 b2 => ?_⟩
      have hl2 : H2 l2 = some (.lst [.int 3, .int 40, .int 9930]) := b2 _ _ upd_same n2p
      obtain ⟨m, hm, hm0, hm1⟩ : ∃ m : Int, atI [V.int 3, V.int 40, V.int 9930] z = some (.int m) ∧ 0 < m ∧ m ≤ 9930 := by
        have : z = 0 ∨ z = 1 ∨ z = 2 := by omega
        rcases this with e | e | e
        · subst e; exact ⟨_, rfl, by decide, by decide⟩
        · subst e; exact ⟨_, rfl, by decide, by decide⟩
        · subst e; exact ⟨_, rfl, by decide, by decide⟩
      refine ⟨l2, _, z, _, rfl, rfl, SqL.of hl2, hm, p, q, m, rfl, B2, hm0, by omega, fun x H3 hx0 hx1 B3 b3 => ?_⟩
      refine ⟨_, _, rfl, rfl, ?_⟩
      have b13 : But p H1 H3 := (But.of_same s2).trans (b2.trans b3)
      have hl3 : H3 l = some (.lst (ts.map V.ref)) := b13 _ _ hl1 nlp
      have fin : ∀ (y : Int) (H4 : Hp), 0 ≤ y → y ≤ 14 → BoxAt H4 p q → But p H3 H4 → ∀ t, H4 t = none →
          (∃ y4 y5, [some (V.ref p), some (.int (n : Nat)), some (.int wide), some (.ref l), some (.int (0 + (i : Int))), some (.int (1 + x))] = [some (.ref p), some (.int (n : Nat)), some (.int wide), some (.ref l), y4, y5]) ∧
          BoxAt (upd (upd H4 t (.tup [.int (1 + x), .int (1 + x + y)])) l (.lst (ts.map V.ref ++ [.ref t]))) p q ∧ But p H (upd (upd H4 t (.tup [.int (1 + x), .int (1 + x + y)])) l (.lst (ts.map V.ref ++ [.ref t]))) ∧
          ∃ (ts' : List Addr) (rs' : List (Int × Int)), rs'.length = i + 1 ∧ upd (upd H4 t (.tup [.int (1 + x), .int (1 + x + y)])) l (.lst (ts.map V.ref ++ [.ref t])) l = some (.lst (ts'.map V.ref)) ∧ (∀ r ∈ rs', goodR r.1 r.2) ∧
            Paired (fun t' (r : Int × Int) => upd (upd H4 t (.tup [.int (1 + x), .int (1 + x + y)])) l (.lst (ts.map V.ref ++ [.ref t])) t' = some (.tup [.int r.1, .int r.2])) ts' rs' := fun y H4 hy0 hy1 B4 b4 t nt => by
        have hl4 : H4 l = some (.lst (ts.map V.ref)) := b4 _ _ hl3 nlp
        have st := same_upd (o := .tup [.int (1 + x), .int (1 + x + y)]) nt
        have ntl : t ≠ l := Ne.symm (ne_of_none hl4 nt)
        have b14 : But p H1 H4 := b13.trans b4
        refine ⟨⟨_, _, rfl⟩, (B4.same st).put nlp nlq, fun b o e hb => ?_, ts ++ [t], rs ++ [(1 + x, 1 + x + y)], by rw [List.length_append, lr]; rfl, by rw [upd_same, List.map_append]; rfl, fun r mr => ?_, ?_⟩
        · rw [upd_ne (ne_of_none e nl)]
          exact st _ _ (b14 _ _ (b1 _ _ e hb) hb)
        · rcases List.mem_append.mp mr with mr | mr
          · exact hg r mr
          · rw [List.mem_singleton.mp mr]
            exact ⟨by show 1 ≤ 1 + x; omega, by show 1 + x ≤ 1 + x + y; omega, by show 1 + x + y ≤ 1 + x + 63; omega, by show 1 + x + y ≤ 9999; omega⟩
        · refine paired_append (paired_mono (fun t' r' q' => ?_) hp) (.cons ?_ .nil)
          · have n1 : t' ≠ l := ne_of q' hl1 (fun z => by cases z)
            have n2 : t' ≠ p := fun z => B1.p_not (z ▸ q')
            rw [upd_ne n1]
            exact st _ _ (b14 _ _ q' n2)
          · rw [upd_ne ntl]
            exact upd_same
      have hll : (ts.map V.ref).length < sizeLine := by rw [List.length_map, lts, lr]; exact small1000 (by omega)
      refine ⟨_, rfl, .inl ⟨rfl, _, SqL.of hl3⟩, _, rfl, _, rfl, _, rfl, rfl, _, rfl, ?_⟩
      rcases hw with hw | hw
      · subst hw
        refine ifT0 (decide_eq_true rfl) ⟨_, rfl, p, q, 4, rfl, B3, by omega, by omega, fun y H4 hy0 hy1 B4 b4 => ?_⟩
        refine ⟨_, _, rfl, rfl, (by show 2 ≤ sizeLine; decide), fun t nt => ?_⟩
        have hl4 : H4 l = some (.lst (ts.map V.ref)) := b4 _ _ hl3 nlp
        exact ⟨l, _, _, rfl, rfl, (same_upd nt) _ _ hl4, hll, fin y H4 hy0 (by omega) B4 b4 t nt⟩
      · subst hw
        refine ifF0 (by decide) ⟨_, rfl, _, rfl, p, q, 5, rfl, B3, by omega, by omega, fun y H4 hy0 hy1 B4 b4 => ?_⟩
        refine ⟨_, _, rfl, rfl, _, _, rfl, rfl, (by show 2 ≤ sizeLine; decide), fun t nt => ?_⟩
        have hl4 : H4 l = some (.lst (ts.map V.ref)) := b4 _ _ hl3 nlp
        exact ⟨l, _, _, rfl, rfl, (same_upd nt) _ _ hl4, hll, fin (9 + y) H4 (by omega) (by omega) B4 b4 t nt⟩
    · rintro σ H1 ⟨⟨y4, y5, rfl⟩, B1, b1, ts, rs, lr, hl1, hg, hp⟩
      exact ⟨_, rfl, kk l rs H1 lr hg nl ⟨ts, hl1, hp⟩ B1 b1⟩
end
end K

/-! a web just begun, its two dicts seen as keyed by pairs -/
namespace K
open PySem PySem.Spec PyProof.Rows L2 SwD
theorem home_of {H : Hp} {c : WebC} {h : HomeA} {s : SlipA} {i n : Nat} {lo hi : Int} (a : HomeAt H c.H c.N h (i : Nat) lo hi n [lo] [(Sum.inl lo, V.ref s.sl)]) (b : SlipAt H c.S s (i : Nat) lo ((i : Nat) + 1)) : HomeT H c h s i lo hi n :=
  ⟨a.me, a.num, a.sg, a.wt, a.st, a.nw, a.qu, b.me, b.wh, b.pa⟩
theorem begin_tw {H : Hp} {c : WebC} {a : WebA} {rs : List (Int × Int)} (F : Fresh H c a rs) (bm : a.b ≠ a.ml) (bb : a.b ≠ a.bo) (mb : a.ml ≠ a.bo) (ds : ∀ h ∈ a.hs, a.b ∉ h.ds ∧ a.ml ∉ h.ds ∧ a.bo ∉ h.ds) (td : ∀ s ∈ a.ss, (∀ h ∈ a.hs, s.td ∉ h.ds) ∧ s.td ≠ a.b ∧ s.td ≠ a.ml ∧ s.td ≠ a.bo) :
    TW (upd (upd H a.b (.dT [])) a.ml (.dT [])) c a rs [] [] 0 := by
  have at_ : ∀ (i : Nat), i < rs.length → ∃ h r s, a.hs[i]? = some h ∧ rs[i]? = some r ∧ a.ss[i]? = some s ∧ HomeT H c h s i r.1 r.2 rs.length ∧ H s.td = some (.dK []) := fun i il => by
    obtain ⟨h, h1⟩ : ∃ h, a.hs[i]? = some h := ⟨_, List.getElem?_eq_getElem (by rw [F.lh]; exact il)⟩
    obtain ⟨s, h3⟩ : ∃ s, a.ss[i]? = some s := ⟨_, List.getElem?_eq_getElem (by rw [F.ls]; exact il)⟩
    obtain ⟨r, h2⟩ : ∃ r, rs[i]? = some r := ⟨_, List.getElem?_eq_getElem il⟩
    obtain ⟨_, q1, q2⟩ := F.home i h r s h1 h2 h3
    exact ⟨h, r, s, h1, h2, h3, home_of q1 q2, q2.td⟩
  -- no place of the web but the two
  have off : ∀ y ∈ a.adr, y ≠ a.b ∧ y ≠ a.ml := fun y hy => by
    simp only [WebA.adr, List.mem_append, List.mem_cons, List.not_mem_nil, or_false, List.mem_flatMap] at hy
    have knd : ∀ {u}, H y = some u → u ≠ .dK [] → y ≠ a.b ∧ y ≠ a.ml := fun e n => ⟨fun z => n (by rw [z, F.b] at e; exact (Option.some.inj e).symm), fun z => n (by rw [z, F.ml] at e; exact (Option.some.inj e).symm)⟩
    rcases hy with ((rfl | rfl | rfl) | ⟨h, mh, my⟩) | ⟨s, ms, my⟩
    · exact knd F.me (fun z => by cases z)
    · exact knd F.hl (fun z => by cases z)
    · exact ⟨Ne.symm bb, Ne.symm mb⟩
    · obtain ⟨i, hi⟩ := List.mem_iff_getElem?.mp mh
      obtain ⟨h', r, s, h1, h2, h3, q, _⟩ := at_ i (by have := (List.getElem?_eq_some_iff.mp hi).1; have := F.lh; omega)
      rw [hi] at h1
      cases h1
      obtain ⟨d1, d2, d3⟩ := ds h mh
      simp only [HomeA.ds, List.mem_cons, List.not_mem_nil, or_false, not_or] at d1 d2
      simp only [HomeA.adr, List.mem_cons, List.not_mem_nil, or_false] at my
      rcases my with rfl | rfl | rfl | rfl | rfl | rfl | rfl | rfl
      · exact knd q.me (fun z => by cases z)
      · exact knd q.num.1 (fun z => by cases z)
      · exact ⟨fun z => d1.1 z.symm, fun z => d2.1 z.symm⟩
      · exact knd q.sg (fun z => by cases z)
      · exact knd q.wt (fun z => by cases z)
      · exact ⟨fun z => d1.2.1 z.symm, fun z => d2.2.1 z.symm⟩
      · exact ⟨fun z => d1.2.2 z.symm, fun z => d2.2.2 z.symm⟩
      · exact knd q.qu (fun z => by cases z)
    · obtain ⟨i, hi⟩ := List.mem_iff_getElem?.mp ms
      obtain ⟨h, r, s', h1, h2, h3, q, _⟩ := at_ i (by have := (List.getElem?_eq_some_iff.mp hi).1; have := F.ls; omega)
      rw [hi] at h3
      cases h3
      simp only [SlipA.adr, List.mem_cons, List.not_mem_nil, or_false] at my
      rcases my with rfl | rfl | rfl
      · exact knd q.sl (fun z => by cases z)
      · exact knd q.wh (fun z => by cases z)
      · exact knd q.pa (fun z => by cases z)
  have o : Off [a.b, a.ml] H (upd (upd H a.b (.dT [])) a.ml (.dT [])) := fun y u e n => by
    simp only [List.mem_cons, List.not_mem_nil, or_false, not_or] at n
    rw [upd_ne n.2, upd_ne n.1]
    exact e
  have tdH : ∀ s ∈ a.ss, H s.td = some (.dK []) := fun s ms => by
    obtain ⟨i, hi⟩ := List.mem_iff_getElem?.mp ms
    obtain ⟨h, r, s', h1, h2, h3, q, e⟩ := at_ i (by have := (List.getElem?_eq_some_iff.mp hi).1; have := F.ls; omega)
    rw [hi] at h3
    cases h3
    exact e
  have ntd : ∀ s ∈ a.ss, s.td ∉ a.adr := fun s ms hy => by
    have e := tdH s ms
    obtain ⟨t1, t2, t3, t4⟩ := td s ms
    simp only [WebA.adr, List.mem_append, List.mem_cons, List.not_mem_nil, or_false, List.mem_flatMap] at hy
    rcases hy with ((z | z | z) | ⟨h, mh, my⟩) | ⟨s', ms', my⟩
    · rw [z, F.me] at e; cases e
    · rw [z, F.hl] at e; cases e
    · exact t4 z
    · obtain ⟨i, hi⟩ := List.mem_iff_getElem?.mp mh
      obtain ⟨h', r, s', h1, h2, h3, q, _⟩ := at_ i (by have := (List.getElem?_eq_some_iff.mp hi).1; have := F.lh; omega)
      rw [hi] at h1
      cases h1
      have d1 := t1 h mh
      simp only [HomeA.ds, List.mem_cons, List.not_mem_nil, or_false, not_or] at d1
      simp only [HomeA.adr, List.mem_cons, List.not_mem_nil, or_false] at my
      rcases my with z | z | z | z | z | z | z | z
      · rw [z, q.me] at e; cases e
      · rw [z, q.num.1] at e; cases e
      · exact d1.1 z
      · rw [z, q.sg] at e; cases e
      · rw [z, q.wt] at e; cases e
      · exact d1.2.1 z
      · exact d1.2.2 z
      · rw [z, q.qu] at e; cases e
    · obtain ⟨i, hi⟩ := List.mem_iff_getElem?.mp ms'
      obtain ⟨h, r, s2, h1, h2, h3, q, _⟩ := at_ i (by have := (List.getElem?_eq_some_iff.mp hi).1; have := F.ls; omega)
      rw [hi] at h3
      cases h3
      simp only [SlipA.adr, List.mem_cons, List.not_mem_nil, or_false] at my
      rcases my with z | z | z
      · rw [z, q.sl] at e; cases e
      · rw [z, q.wh] at e; cases e
      · rw [z, q.pa] at e; cases e
  have k : ∀ {y u}, H y = some u → y ∈ a.adr → upd (upd H a.b (.dT [])) a.ml (.dT []) y = some u := fun e m => o _ _ e (by simp [(off _ m).1, (off _ m).2])
  refine ⟨⟨k F.me (mem_me a).1, k F.hl (mem_me a).2.1, k F.bo (mem_me a).2.2, F.lh, F.ls, F.n8, fun i h r s h1 h2 h3 => ?_, fun s ms => ?_, ntd⟩, ⟨[], by rw [upd_ne bm]; exact upd_same, .nil⟩, List.nodup_nil, (fun e me => by cases me), Nat.zero_le _, ⟨[], upd_same, Nat.le_refl _, fun k => ⟨(fun ⟨v, z⟩ => by cases z), (fun z => by rcases z with z | z <;> cases z)⟩, (fun e me => by cases me)⟩, (fun r mr => by cases mr), ⟨fun m => (off _ m).1 rfl, fun m => (off _ m).2 rfl, bm⟩, (fun r mr => by cases mr), fun s ms => ⟨(td s ms).2.1, (td s ms).2.2.1⟩⟩
  · obtain ⟨g, q1, q2⟩ := F.home i h r s h1 h2 h3
    exact ⟨g, (home_of q1 q2).off o (fun y hy => by have := off y (mem_home (List.mem_of_getElem? h1) y hy); simp [this.1, this.2]) (fun y hy => by have := off y (mem_slip (List.mem_of_getElem? h3) y hy); simp [this.1, this.2])⟩
  · exact ⟨[], o _ _ (tdH s ms) (by simp [(td s ms).2.1, (td s ms).2.2.1]), Nat.zero_le _⟩
end K

namespace K
open PySem PySem.Spec PyProof.Rows L2 LamX SwD
def qL : Str := "law.<locals>.<lambda>"
theorem slot_at {σ : L2.St} {v : Option V} (h : (slotN (some 1) v σ).length = 2) : (slotN (some 1) v σ)[1]? = some v := by
  have h : (σ.set 1 v).length = 2 := h
  rw [List.length_set] at h
  show (σ.set 1 v)[1]? = some v
  rw [List.getElem?_set_self (by omega)]
/-- which clause of _law_why takes which refusal -/
structure WhyF (K : PySem.W.Frag) (x : XC) (CU CO CL CS : Addr) : Prop where
  hh : PySem.W.exmOne K (.ref x.H) (.ref x.H) = some true
  th : PySem.W.exmOne K (.ref x.T) (.ref x.H) = some false
  tt : PySem.W.exmOne K (.ref x.T) (.ref x.T) = some true
  mh : PySem.W.exmOne K (.ref x.M) (.ref x.H) = some false
  mt : PySem.W.exmOne K (.ref x.M) (.ref x.T) = some false
  mm : PySem.W.exmOne K (.ref x.M) (.ref x.M) = some true
  w : ∀ C ∈ [x.S, x.P, x.B, x.W], (PySem.W.exmOne K (.ref C) (.ref x.H) = some false ∧ PySem.W.exmOne K (.ref C) (.ref x.T) = some false ∧ PySem.W.exmOne K (.ref C) (.ref x.M) = some false ∧ PySem.W.exmOne K (.ref C) (.ref CU) = some false ∧ PySem.W.exmOne K (.ref C) (.ref CO) = some false ∧ PySem.W.exmOne K (.ref C) (.ref CL) = some false ∧ PySem.W.exmOne K (.ref C) (.ref CS) = some true) ∧ XfC K C ∧ PySem.W.findIn K (.ref C) "word" = some none
  xh : XfC K x.H
  xt : XfC K x.T
  xm : XfC K x.M
  fh : PySem.W.findIn K (.ref x.H) "house" = some none
  f1 : PySem.W.findIn K (.ref x.T) "one" = some none
  f2 : PySem.W.findIn K (.ref x.T) "other" = some none
  fm : PySem.W.findIn K (.ref x.M) "bound" = some none
theorem refX_why {K : PySem.W.Frag} {x : XC} {CU CO CL CS : Addr} {i j : Int} {y : Why} {H : Hp} {D : Ends} (F : WhyF K x CU CO CL CS) (tell : ∀ (H' : Hp) (t : Addr), Same H H' → H' t = none → D.rt (.ref t) (upd H' t (.tup (whyV i j y)))) : RefX x i j y H (Ewhy K x.H x.T x.M CU CO CL CS D) := by
  cases y with
  | nohouse h =>
    intro d H' nd s e σ'
    refine ⟨true, F.hh, fun _ ea na hσ => ?_, fun z => (by cases z)⟩
    exact ⟨x.H, F.xh, F.fh, .ref ea, slot_at hσ, rfl, rfl, d, _, _, rfl, e, rfl, (by show 2 ≤ sizeLine; decide), fun tp ntp => tell H' tp s ntp⟩
  | notie =>
    intro d H' nd s e σ'
    refine ⟨false, F.th, fun z => (by cases z), fun _ => ⟨true, F.tt, fun _ ea na hσ => ?_, fun z => (by cases z)⟩⟩
    exact ⟨x.T, F.xt, F.f1, .ref ea, slot_at hσ, rfl, rfl, d, _, _, rfl, e, rfl, x.T, F.xt, F.f2, .ref ea, slot_at hσ, rfl, rfl, d, _, _, rfl, e, rfl, (by show 3 ≤ sizeLine; decide), fun tp ntp => tell H' tp s ntp⟩
  | toomany =>
    intro d H' nd s e σ'
    refine ⟨false, F.mh, fun z => (by cases z), fun _ => ⟨false, F.mt, fun z => (by cases z), fun _ => ⟨true, F.mm, fun _ ea na hσ => ?_, fun z => (by cases z)⟩⟩⟩
    exact ⟨x.M, F.xm, F.fm, .ref ea, slot_at hσ, rfl, rfl, d, _, _, rfl, e, rfl, (by show 2 ≤ sizeLine; decide), fun tp ntp => tell H' tp s ntp⟩
  | word w =>
    have one : ∀ C ∈ [x.S, x.P, x.B, x.W], BareX C w H (Ewhy K x.H x.T x.M CU CO CL CS D) := fun C mC => by
      obtain ⟨⟨e1, e2, e3, e4, e5, e6, e7⟩, xc, fc⟩ := F.w C mC
      intro d H' nd s e σ'
      refine ⟨false, e1, fun z => (by cases z), fun _ => ⟨false, e2, fun z => (by cases z), fun _ => ⟨false, e3, fun z => (by cases z), fun _ => ⟨false, e4, fun z => (by cases z), fun _ => ⟨false, e5, fun z => (by cases z), fun _ => ⟨false, e6, fun z => (by cases z), fun _ => ⟨true, e7, fun _ ea na hσ => ?_, fun z => (by cases z)⟩⟩⟩⟩⟩⟩⟩
      exact ⟨C, xc, fc, .ref ea, slot_at hσ, rfl, rfl, d, _, _, rfl, e, rfl, (by show 1 ≤ sizeLine; decide), fun tp ntp => tell H' tp s ntp⟩
    exact ⟨fun e => by subst e; exact one _ (by simp), fun e => by subst e; exact one _ (by simp), fun e => by subst e; exact one _ (by simp), fun e => by subst e; exact one _ (by simp)⟩
section
variable {H H' : Hp} {c : WebC} {a : WebA} {rs : List (Int × Int)} {bs : List Bond} {ro : List Addr} {m : Nat}
theorem TW.lst {p : Addr} {xs : List V} (t : TW H c a rs bs ro m) (b : ∀ y o, H y = some o → y ≠ p → H' y = some o) (hp : H p = some (.lst xs)) (n1 : p ∉ a.adr) (n2 : p ∉ ro) : TW H' c a rs bs ro m := by
  obtain ⟨kb, mv, R, h1, h2, h3⟩ := t.raw
  have o : Off [p] H H' := fun y u e n => b y u e (fun z => n (by rw [z]; simp))
  have ne : ∀ {y u}, H y = some u → (∀ xs, u ≠ .lst xs) → H' y = some u := fun e n => b _ _ e (fun z => by rw [z, hp] at e; exact n _ (Option.some.inj e).symm)
  refine Raw.web ⟨t.st.off o (fun y hy z => n1 (by rw [← List.mem_singleton.mp z]; exact hy)) (fun s ms z => ?_), ne R.b (fun xs z => by cases z), pair_keep R.p (fun y xs e => ne e (fun xs z => by cases z)), ne R.ml (fun xs z => by cases z), fun r mr => ?_, R.nb, R.nr⟩ t.nd t.ok t.few h1 h2 h3
  · obtain ⟨kvs, e, _⟩ := t.st.told s ms
    rw [List.mem_singleton.mp z, hp] at e; cases e
  · obtain ⟨ls, e, l⟩ := R.rows r mr
    exact ⟨ls, b _ _ e (fun z => n2 (by rw [← z]; exact mr)), l⟩
theorem TW.dT {p : Addr} {kv : List (List Key × V)} (t : TW H c a rs bs ro m) (b : ∀ y o, H y = some o → y ≠ p → H' y = some o) (hp : H p = some (.dT kv)) (n1 : p ≠ a.b) (n2 : p ≠ a.ml) : TW H' c a rs bs ro m := by
  obtain ⟨kb, mv, R, h1, h2, h3⟩ := t.raw
  have o : Off [p] H H' := fun y u e n => b y u e (fun z => n (by rw [z]; simp))
  have ne : ∀ {y u}, H y = some u → (∀ xs, u ≠ .dT xs) → H' y = some u := fun e n => b _ _ e (fun z => by rw [z, hp] at e; exact n _ (Option.some.inj e).symm)
  refine Raw.web ⟨t.st.off o (fun y hy z => ?_) (fun s ms z => ?_), b _ _ R.b (Ne.symm n1), pair_keep R.p (fun y xs e => ne e (fun xs z => by cases z)), b _ _ R.ml (Ne.symm n2), fun r mr => ?_, R.nb, R.nr⟩ t.nd t.ok t.few h1 h2 h3
  · have z := List.mem_singleton.mp z
    subst z
    simp only [WebA.adr, List.mem_append, List.mem_cons, List.not_mem_nil, or_false, List.mem_flatMap] at hy
    rcases hy with ((z | z | z) | ⟨h, mh, my⟩) | ⟨s, ms, my⟩
    · rw [z, t.st.me] at hp; cases hp
    · rw [z, t.st.hl] at hp; cases hp
    · rw [z, t.st.bo] at hp; cases hp
    · obtain ⟨i, hi⟩ := List.mem_iff_getElem?.mp mh
      obtain ⟨h', r, s, e1, e2, e3, _, q⟩ := t.st.at (i := i) (by have := (List.getElem?_eq_some_iff.mp hi).1; have := t.st.lh; omega)
      rw [hi] at e1
      cases e1
      simp only [HomeA.adr, List.mem_cons, List.not_mem_nil, or_false] at my
      rcases my with z | z | z | z | z | z | z | z
      · rw [z, q.me] at hp; cases hp
      · rw [z, q.num.1] at hp; cases hp
      · rw [z, q.num.2] at hp; cases hp
      · rw [z, q.sg] at hp; cases hp
      · rw [z, q.wt] at hp; cases hp
      · rw [z, q.st] at hp; cases hp
      · rw [z, q.nw] at hp; cases hp
      · rw [z, q.qu] at hp; cases hp
    · obtain ⟨i, hi⟩ := List.mem_iff_getElem?.mp ms
      obtain ⟨h', r, s', e1, e2, e3, _, q⟩ := t.st.at (i := i) (by have := (List.getElem?_eq_some_iff.mp hi).1; have := t.st.ls; omega)
      rw [hi] at e3
      cases e3
      simp only [SlipA.adr, List.mem_cons, List.not_mem_nil, or_false] at my
      rcases my with z | z | z
      · rw [z, q.sl] at hp; cases hp
      · rw [z, q.wh] at hp; cases hp
      · rw [z, q.pa] at hp; cases hp
  · obtain ⟨kvs, e, _⟩ := t.st.told s ms
    rw [List.mem_singleton.mp z, hp] at e; cases e
  · obtain ⟨ls, e, l⟩ := R.rows r mr
    exact ⟨ls, ne e (fun xs z => by cases z), l⟩
end
/-- what stands between two turns -/
structure LawS (H : Hp) (c : WebC) (a : WebA) (rs : List (Int × Int)) (bs bl : List Bond) (ro : List Addr) (m : Nat) (p q lt : Addr) (TL : List (Addr × Str)) : Prop where
  box : BoxAt H p q
  web : TW H c a rs bs ro m
  d : ∃ kvl, H lt = some (.dT kvl) ∧ Paired (BondAt H) kvl bl
  tabs : Tabs TL H
  pa : p ∉ a.adr
  pm : p ∉ mutW a ro
  qm : q ∉ mutW a ro
  lm : lt ∉ mutW a ro
section
variable {H H' : Hp} {c : WebC} {a : WebA} {rs : List (Int × Int)} {bs bl : List Bond} {ro : List Addr} {m : Nat} {p q lt : Addr} {TL : List (Addr × Str)}
theorem LawS.same (L : LawS H c a rs bs bl ro m p q lt TL) (s : Same H H') : LawS H' c a rs bs bl ro m p q lt TL :=
  ⟨L.box.same s, L.web.same s, let ⟨k, h1, h2⟩ := L.d; ⟨k, s _ _ h1, pair_keep h2 (fun y xs e => s _ _ e)⟩, L.tabs.ext s, L.pa, L.pm, L.qm, L.lm⟩
theorem box_extN {H H' : Hp} {p q : Addr} (B : BoxAt H p q) (e : ExtN H H') : BoxAt H' p q := by
  obtain ⟨ms, i, u, v, h1, h2, r⟩ := B
  exact ⟨ms, i, u, v, e _ _ h1 (fun ps z => by cases z), e _ _ h2 (fun ps z => by cases z), r⟩
theorem LawS.ext (L : LawS H c a rs bs bl ro m p q lt TL) (s : ExtN H H') (t : Tabs TL H') : LawS H' c a rs bs bl ro m p q lt TL :=
  ⟨box_extN L.box s, L.web.ext s, let ⟨k, h1, h2⟩ := L.d; ⟨k, s _ _ h1 (fun ps z => by cases z), pair_keep h2 (fun y xs e => s _ _ e (fun ps z => by cases z))⟩, t, L.pa, L.pm, L.qm, L.lm⟩
theorem LawS.but (L : LawS H c a rs bs bl ro m p q lt TL) (B : BoxAt H' p q) (b : But p H H') : LawS H' c a rs bs bl ro m p q lt TL := by
  obtain ⟨ms, i, u, v, hp, _⟩ := L.box
  have ne : ∀ {y o}, H y = some o → (∀ xs, o ≠ .lst xs) → H' y = some o := fun e n => b _ _ e (fun z => by rw [z, hp] at e; exact n _ (Option.some.inj e).symm)
  obtain ⟨k, h1, h2⟩ := L.d
  refine ⟨B, L.web.lst b hp L.pa (fun z => L.pm (mem_mut (by simp [TW.mut, z]))), ⟨k, ne h1 (fun xs z => by cases z), pair_keep h2 (fun y xs e => ne e (fun xs z => by cases z))⟩, ?_, L.pa, L.pm, L.qm, L.lm⟩
  exact tabs_off L.tabs (as := [p]) (fun y o e n => b y o e (fun z => n (by rw [z]; simp))) (fun y hy u hu => by rw [List.mem_singleton.mp hy, hp] at hu; rw [← Option.some.inj hu]; exact plain_lst _)
/-- the law's own dict is written -/
theorem LawS.put {kvl : List (List Key × V)} {bl' : List Bond} (L : LawS H c a rs bs bl ro m p q lt TL) (hp : Paired (BondAt H) kvl bl') : LawS (upd H lt (.dT kvl)) c a rs bs bl' ro m p q lt TL := by
  obtain ⟨k, h1, h2⟩ := L.d
  have b : ∀ y o, H y = some o → y ≠ lt → upd H lt (.dT kvl) y = some o := fun y o e n => by rw [upd_ne n]; exact e
  have ne : ∀ {y o}, H y = some o → (∀ xs, o ≠ .dT xs) → upd H lt (.dT kvl) y = some o := fun e n => b _ _ e (fun z => by rw [z, h1] at e; exact n _ (Option.some.inj e).symm)
  refine ⟨?_, L.web.dT b h1 (fun z => L.lm (by rw [z]; exact mut_b a ro)) (fun z => L.lm (by rw [z]; exact mut_ml a ro)), ⟨kvl, upd_same, pair_keep hp (fun y xs e => ne e (fun xs z => by cases z))⟩, tabs_put L.tabs h1 (plain_dT _), L.pa, L.pm, L.qm, L.lm⟩
  obtain ⟨ms, i, u, v, g1, g2, r⟩ := L.box
  exact ⟨ms, i, u, v, ne g1 (fun xs z => by cases z), ne g2 (fun xs z => by cases z), r⟩
/-- a deed is done -/
theorem LawS.done {a' : WebA} {bs' : List Bond} {ro' : List Addr} {m' : Nat} (L : LawS H c a rs bs bl ro m p q lt TL) (em : ∀ y ∈ mutW a' ro', y ∈ mutW a ro ∨ H y = none) (o : OffN (mutW a ro) H H') (t : Tabs TL H') (ap : ∀ y u, H y = some u → (∀ ps, u ≠ .tbl ps) → y ∉ mutW a ro → y ∉ a.adr → y ∉ a'.adr) (W : TW H' c a' rs bs' ro' m') : LawS H' c a' rs bs' bl ro' m' p q lt TL := by
  obtain ⟨ms, i, u, v, hp, hq, r⟩ := L.box
  obtain ⟨k, h1, h2⟩ := L.d
  have tup : ∀ y xs, H y = some (.tup xs) → H' y = some (.tup xs) := fun y xs e => o _ _ e (fun ps z => by cases z) (fun m => by
    obtain ⟨w, hw, _, nt⟩ := L.web.plain y m
    rw [e] at hw
    exact nt _ (Option.some.inj hw).symm)
  have still : ∀ {y o}, H y = some o → y ∉ mutW a ro → y ∉ mutW a' ro' := fun e n m => (em _ m).elim n (fun z => by rw [z] at e; cases e)
  exact ⟨⟨ms, i, u, v, o _ _ hp (fun ps z => by cases z) L.pm, o _ _ hq (fun ps z => by cases z) L.qm, r⟩, W, ⟨k, o _ _ h1 (fun ps z => by cases z) L.lm, pair_keep h2 tup⟩, t, ap p _ hp (fun ps z => by cases z) L.pm L.pa, still hp L.pm, still hq L.qm, still h1 L.lm⟩
end
end K


/-! a shuffled list of pairs, its first ones -/
namespace K
open PySem PySem.Spec PyProof.Rows L2 SwD
theorem cut_take (xs : List V) (k : Nat) : cutV xs none (some (k : Int)) = xs.take k := by
  unfold cutV
  have e : HT.sIx xs.length xs.length (some (k : Int)) = min k xs.length := by
    show (if ((k : Nat) : Int) < 0 then (((k : Nat) : Int) + (xs.length : Int)).toNat else min ((k : Nat) : Int).toNat xs.length) = _
    rw [if_neg (by omega)]
    rfl
  rw [e, HT.sIx_none, List.drop_zero, Nat.sub_zero]
  by_cases h : k ≤ xs.length
  · rw [Nat.min_eq_left h]
  · rw [Nat.min_eq_right (by omega), List.take_length, List.take_of_length_le (by omega)]
theorem paired_perm {α β : Type} {R : α → β → Prop} {xs ys : List α} (p : xs.Perm ys) : ∀ {zs : List β}, Paired R xs zs → ∃ ws : List β, ws.Perm zs ∧ Paired R ys ws := by
  induction p with
  | nil => intro zs h; cases h; exact ⟨[], .refl _, .nil⟩
  | cons x _ ih =>
    intro zs h
    cases h with
    | @cons _ z _ zs r t =>
      obtain ⟨ws, h1, h2⟩ := ih t
      exact ⟨z :: ws, h1.cons z, .cons r h2⟩
  | swap x y l =>
    intro zs h
    cases h with
    | @cons _ z _ zs r t =>
      cases t with
      | @cons _ z2 _ zs r2 t => exact ⟨z2 :: z :: zs, .swap z z2 zs, .cons r2 (.cons r t)⟩
  | trans _ _ ih1 ih2 =>
    intro zs h
    obtain ⟨w1, a1, a2⟩ := ih1 h
    obtain ⟨w2, b1, b2⟩ := ih2 a2
    exact ⟨w2, b1.trans a1, b2⟩
theorem paired_take {α β : Type} {R : α → β → Prop} : ∀ {xs : List α} {ys : List β} (k : Nat), Paired R xs ys → Paired R (xs.take k) (ys.take k)
  | _, _, 0, _ => by rw [List.take_zero, List.take_zero]; exact .nil
  | _, _, k + 1, .nil => by rw [List.take_nil, List.take_nil]; exact .nil
  | _, _, k + 1, .cons r t => by rw [List.take_succ_cons, List.take_succ_cons]; exact .cons r (paired_take k t)
def ik (k : Nat × Nat) : Int × Int := ((k.1 : Int), (k.2 : Int))
theorem ik_inj {a b : Nat × Nat} (h : ik a = ik b) : a = b := by
  unfold ik at h
  injection h with h1 h2
  exact Prod.ext (Int.ofNat.inj h1) (Int.ofNat.inj h2)
/-- the ties of the first pairs -/
def bsOf (ps : List (Nat × Nat)) : List Bond := ps.map fun k => (ik k, ((1 : Int), true))
theorem bsOf_keys (ps : List (Nat × Nat)) : (bsOf ps).map (·.1) = ps.map ik := by
  unfold bsOf
  rw [List.map_map]
  rfl
theorem bsOf_new {ps : List (Nat × Nat)} {k : Nat × Nat} (h : k ∉ ps) : bget (bsOf ps) (ik k) = none := by
  cases e : bget (bsOf ps) (ik k) with
  | none => rfl
  | some v =>
    have := bget_some.mp ⟨v, e⟩
    rw [bsOf_keys] at this
    obtain ⟨z, mz, ez⟩ := List.mem_map.mp this
    rw [ik_inj ez] at mz
    exact absurd mz h
theorem srt_ik {k : Nat × Nat} (h : k.1 < k.2) : srt (k.1 : Int) (k.2 : Int) = ik k := by
  unfold srt ik
  rw [if_neg (by omega), if_pos (by omega)]
theorem nodup_take {α : Type} {ps : List α} (h : ps.Nodup) {j : Nat} {k : α} (e : ps[j]? = some k) : k ∉ ps.take j := fun m => by
  rw [← List.take_append_drop j ps, List.nodup_append] at h
  have md : k ∈ ps.drop j := List.mem_of_getElem? (i := 0) (by rw [List.getElem?_drop, Nat.add_zero]; exact e)
  exact h.2.2 k m k md rfl
end K

namespace K
open PySem PySem.Spec PyProof.Rows L2 LamX SwD
abbrev sLaw : Stmt := top 76
def spLawT (K : PySem.W.Frag) (PT PU : Addr) : Sp := fun vs H Q _ => ∃ (a : Addr) (ns : List Int), vs = [.ref a] ∧ SqL K H a (ns.map V.int) ∧ ns.length ≤ 63 ∧ Tabs [(PT, qL), (PU, qU)] H ∧ ∀ H', Q (.bl true) H'
theorem upd_upd {H : Hp} {y : Addr} {u v : HO} : upd (upd H y u) y v = upd H y v := by
  funext z
  by_cases e : z = y
  · rw [e, upd_same, upd_same]
  · rw [upd_ne e, upd_ne e, upd_ne e]
theorem begin_na {H H0 : Hp} {c : WebC} {a : WebA} {rs : List (Int × Int)} {p : Addr} {xs : List V} {o : HO} (F : Fresh H c a rs) (hp : H p = some (.lst xs)) (h0 : H0 p = some o) (n1 : H0 a.hl = none) (n2 : ∀ h ∈ a.hs, ∀ y ∈ h.ls, H0 y = none) : p ∉ a.adr := fun hy => by
  have fr : ∀ {y}, H0 y = none → p ≠ y := fun e z => by rw [← z, h0] at e; cases e
  simp only [WebA.adr, List.mem_append, List.mem_cons, List.not_mem_nil, or_false, List.mem_flatMap] at hy
  have at_ : ∀ (i : Nat), i < rs.length → ∃ h r s, a.hs[i]? = some h ∧ rs[i]? = some r ∧ a.ss[i]? = some s ∧ HomeT H c h s i r.1 r.2 rs.length := fun i il => by
    obtain ⟨h, h1⟩ : ∃ h, a.hs[i]? = some h := ⟨_, List.getElem?_eq_getElem (by rw [F.lh]; exact il)⟩
    obtain ⟨s, h3⟩ : ∃ s, a.ss[i]? = some s := ⟨_, List.getElem?_eq_getElem (by rw [F.ls]; exact il)⟩
    obtain ⟨r, h2⟩ : ∃ r, rs[i]? = some r := ⟨_, List.getElem?_eq_getElem il⟩
    obtain ⟨_, q1, q2⟩ := F.home i h r s h1 h2 h3
    exact ⟨h, r, s, h1, h2, h3, home_of q1 q2⟩
  rcases hy with ((z | z | z) | ⟨h, mh, my⟩) | ⟨s, ms, my⟩
  · rw [z, F.me] at hp; cases hp
  · exact fr n1 z
  · rw [z, F.bo] at hp; cases hp
  · obtain ⟨i, hi⟩ := List.mem_iff_getElem?.mp mh
    obtain ⟨h', r, s, h1, h2, h3, q⟩ := at_ i (by have := (List.getElem?_eq_some_iff.mp hi).1; have := F.lh; omega)
    rw [hi] at h1
    cases h1
    have nl := n2 h mh
    simp only [HomeA.ls, List.mem_cons, List.not_mem_nil, or_false] at nl
    simp only [HomeA.adr, List.mem_cons, List.not_mem_nil, or_false] at my
    rcases my with z | z | z | z | z | z | z | z
    · rw [z, q.me] at hp; cases hp
    · rw [z, q.num.1] at hp; cases hp
    · rw [z, q.num.2] at hp; cases hp
    · exact fr (nl _ (by simp)) z
    · exact fr (nl _ (by simp)) z
    · rw [z, q.st] at hp; cases hp
    · rw [z, q.nw] at hp; cases hp
    · exact fr (nl _ (by simp)) z
  · obtain ⟨i, hi⟩ := List.mem_iff_getElem?.mp ms
    obtain ⟨h, r, s', h1, h2, h3, q⟩ := at_ i (by have := (List.getElem?_eq_some_iff.mp hi).1; have := F.ls; omega)
    rw [hi] at h3
    cases h3
    simp only [SlipA.adr, List.mem_cons, List.not_mem_nil, or_false] at my
    rcases my with z | z | z
    · rw [z, q.sl] at hp; cases hp
    · rw [z, q.wh] at hp; cases hp
    · rw [z, q.pa] at hp; cases hp
theorem begin_nm {H : Hp} {c : WebC} {a : WebA} {rs : List (Int × Int)} {bs : List Bond} {m : Nat} {p : Addr} {xs : List V} (t : TW H c a rs bs [] m) (hp : H p = some (.lst xs)) : p ∉ mutW a [] := fun hy => by
  simp only [mutW, TW.mut, List.mem_append, List.mem_cons, List.not_mem_nil, or_false, List.mem_map] at hy
  rcases hy with ⟨h, mh, rfl⟩ | (rfl | rfl) | ⟨s, ms, rfl⟩
  · obtain ⟨i, hi⟩ := List.mem_iff_getElem?.mp mh
    obtain ⟨h', r, s, e1, e2, e3, _, q⟩ := t.st.at (i := i) (by have := (List.getElem?_eq_some_iff.mp hi).1; have := t.st.lh; omega)
    rw [hi] at e1
    cases e1
    rw [q.me] at hp; cases hp
  · obtain ⟨kb, e, _⟩ := t.b
    rw [e] at hp; cases hp
  · obtain ⟨kb, e, _⟩ := t.ml
    rw [e] at hp; cases hp
  · obtain ⟨kb, e, _⟩ := t.st.told s ms
    rw [e] at hp; cases hp
theorem ref_got {n : Nat} {bs : List Bond} {w : Str} {i j p : Int} (hw : w ≠ "build") (h : refuse n bs w i j p = none) : ∃ v, bget bs (srt i j) = some v := by
  unfold refuse at h
  split at h
  · cases h
  split at h
  · cases h
  split at h
  · cases h
  cases e : bget bs (srt i j) with
  | some v => exact ⟨v, rfl⟩
  | none =>
    rw [e] at h
    simp only [if_neg hw] at h
    cases h
theorem ref_new {n : Nat} {bs : List Bond} {i j p : Int} (h : refuse n bs "build" i j p = none) : bget bs (srt i j) = none := by
  unfold refuse at h
  split at h
  · cases h
  split at h
  · cases h
  split at h
  · cases h
  cases e : bget bs (srt i j) with
  | none => rfl
  | some v =>
    rw [e] at h
    simp only [if_true] at h
    cases h
def lpA (n : Nat) : Str := ("Web(" : Str) ++ Str.ofString (toString ((n : Nat) : Int))
def lpB (n : Nat) : Str := lpA n ++ " houses, "
def lpC (n m : Nat) : Str := lpB n ++ Str.ofString (toString ((m : Nat) : Int))
def lpD (n m : Nat) : Str := lpC n m ++ " ties, "
def lpW (n m : Nat) : Nat → Nat
  | 0 => ("Web(" : Str).length + (Str.ofString (toString ((n : Nat) : Int))).length
  | 1 => (lpA n).length + (" houses, " : Str).length
  | 2 => (lpB n).length + (Str.ofString (toString ((m : Nat) : Int))).length
  | _ => (lpC n m).length + (" ties, " : Str).length
theorem lpW_le {n m : Nat} (h : n ≤ 8) (k : m ≤ 14) (i : Nat) : lpW n m i ≤ 100 := by
  have : ∀ (n : Fin 9) (m : Fin 15), lpW n.val m.val 0 ≤ 100 ∧ lpW n.val m.val 1 ≤ 100 ∧ lpW n.val m.val 2 ≤ 100 ∧ lpW n.val m.val 3 ≤ 100 := by decide +kernel
  obtain ⟨a, b, c, d⟩ := this ⟨n, by omega⟩ ⟨m, by omega⟩
  match i with
  | 0 => exact a
  | 1 => exact b
  | 2 => exact c
  | i + 3 => exact d
theorem starts13 {n m : Nat} (h : n ≤ 8) (k : m ≤ 14) : Txt.startswith (reprT n m) (lpD n m) = true := by
  have : ∀ (n : Fin 9) (m : Fin 15), Txt.startswith (reprT n.val m.val) (lpD n.val m.val) = true := by decide +kernel
  exact this ⟨n, by omega⟩ ⟨m, by omega⟩
section
variable {P : Program} {w : World} {K : PySem.W.Frag} {mg : Str → Option Value} {base : Heap}
theorem scLaw : FnScope ["_law_script", "_law_box_here", "_law_many", "_law_packed", "_law_web", "_law_ties", "_law_one", "_law_other", "_law_turn", "_law_deed", "_law_word", "_law_cost", "_law_tie", "_law_due", "_law_elder", "_law_rows", "_law_key"] ["_law_script"] (defScope sLaw) := ⟨rfl, rfl, rfl, by decide +kernel, rfl, by decide +kernel, by decide +kernel⟩
theorem ok_law {f CU CO CL CS gW cT PT PU fWX : Addr} {c : WebC} {x : XC} {fdWI : FuncData} {oc kV doc pm ct oc' kV' doc' pm' cd' ct' : Value} {od an od' an' : Option Addr} {osl osl' : Array (Option Value)} {f_law_box : Addr} {fd_law_box : FuncData} (c_law_box : Cal P w K mg base 11 "_law_box" f_law_box fd_law_box ["_law_script"] (spBox K)) {f_law_take : Addr} {fd_law_take : FuncData} (c_law_take : Cal P w K mg base 11 "_law_take" f_law_take fd_law_take ["_law_box_here", "_law_sides"] spTake) {f_law_ranges : Addr} {fd_law_ranges : FuncData} (c_law_ranges : Cal P w K mg base 11 "_law_ranges" f_law_ranges fd_law_ranges ["_law_box_here", "_law_many", "_law_wide"] spRangesL) {f_law_same : Addr} {fd_law_same : FuncData} (c_law_same : Cal P w K mg base 11 "_law_same" f_law_same fd_law_same ["_law_found", "_law_due"] (spSame 11)) {f_law_shuffled : Addr} {fd_law_shuffled : FuncData} (c_law_shuffled : Cal P w K mg base 11 "_law_shuffled" f_law_shuffled fd_law_shuffled ["_law_box_here", "_law_some"] spShuf) {f_law_pairs : Addr} {fd_law_pairs : FuncData} (c_law_pairs : Cal P w K mg base 11 "_law_pairs" f_law_pairs fd_law_pairs ["_law_many"] spPairsD) {f_law_tie_deed : Addr} {fd_law_tie_deed : FuncData} (c_law_tie_deed : Cal P w K mg base 11 "_law_tie_deed" f_law_tie_deed fd_law_tie_deed ["_law_box_here", "_law_many", "_law_ties"] spDeed) {f_law_refused : Addr} {fd_law_refused : FuncData} (c_law_refused : Cal P w K mg base 11 "_law_refused" f_law_refused fd_law_refused ["_law_many", "_law_ties", "_law_deed"] spRefused) {f_law_acted : Addr} {fd_law_acted : FuncData} (c_law_acted : CalX P w K mg base 9 "_law_acted" f_law_acted fd_law_acted ["_law_web", "_law_deed"] (spActed c x [(PT, qL), (PU, qU)])) {fTi : Addr} {fdTi : FuncData} (mTi : Meth K c.W "ties" fTi) (GTi : FnOk P w K mg base CX0 11 fTi fdTi ["self"] (spTies c)) (bTi : Binds K fdTi ["self"] []) {fB : Addr} {fdB : FuncData} {dsB : List Value} (mB : Meth K c.W "build" fB) (GB : FnOk P w K mg base (L2.CX P w) 11 fB fdB ["self", "one", "other", "price"] (spBuild c x.H x.T x.S x.P x.M)) (bB : Binds K fdB ["self", "one", "other", "price"] dsB) (vB : Vals [.int 1] dsB) {frepr : Addr} {fdrepr : FuncData} (mrepr : PySem.W.findIn K (.ref c.W) "__repr__" = some (some (.ref frepr))) (nrepr : PySem.W.isFn K (.ref frepr) = true) (Grepr : FnOk P w K mg base CX0 10 frepr fdrepr ["self"] (spRepr c)) (brepr : Binds K fdrepr ["self"] []) (mRepr : mg "repr" = none) (mMin : mg "min" = none) (mMax : mg "max" = none)
    (lk : K.lookup f = some ⟨oc, od, .func (PySem.W.fnOf "law" "law" (defArgs sLaw) (defBody sLaw) (defScope sLaw) .none kV doc pm an (.ref cT) ct), osl⟩) (hcd : PySem.W.codeIn K (.ref cT) "law" = true) (T : BT mg) (TC : ClsT K mg "Web" c.W fWX webFs)
    (gw : mg "_law_why" = some (.ref gW)) (kw : PySem.W.keepIn K (.ref gW) = true) (lkw : K.lookup gW = some ⟨oc', od', .func (PySem.W.fnOf "_law_why" "_law_why" (defArgs sWhy) (defBody sWhy) (defScope sWhy) .none kV' doc' pm' an' cd' ct'), osl'⟩) (cw : PySem.W.codeIn K cd' "_law_why" = true)
    (bw : Binds K (PySem.W.fnOf "_law_why" "_law_why" (defArgs sWhy) (defBody sWhy) (defScope sWhy) .none kV' doc' pm' an' cd' ct') ["_law_ask"] []) (WT : WhyT mg x.H x.T x.M CU CO CL CS) (TB : TabB base mg cT PT) (nPU : PT ≠ PU) (WF : WhyF K x CU CO CL CS)
    (GWI : FnOk P w K mg base (L2.CX P w) 10 fWX fdWI ["self", "ranges"] (spWebI c x.M)) (bWI : Binds K fdWI ["self", "ranges"] []) :
    FnOk P w K mg base CX0 12 f (PySem.W.fnOf "law" "law" (defArgs sLaw) (defBody sLaw) (defScope sLaw) .none kV doc pm an (.ref cT) ct) ["_law_script"] (spLawT K PT PU) := by
  refine fn_of lk hcd scLaw (fun vs H Q E h => ?_) (fun A outer s H vs Q E hr h => ?_)
  · obtain ⟨a, ns, rfl, _⟩ := h
    rfl
  · obtain ⟨a0, ns, rfl, hS, hlen, hT, kk⟩ := h
    have hu := hu_of hr
    have hrep : ((A.deeper (envOfC "law" (defScope sLaw) s.heap.objs.size f (.ref cT))).in1).units < cLine := hr.in1.units0
    refine ⟨_, PSs.nox (pss_cons (ps_set (i := 1) scLaw.nd rfl (.inl rfl) (pe_call c_law_box.ok hr (by rfl) c_law_box.g c_law_box.kp c_law_box.b .nil pass0 (pa_cons (pv 0) pa_nil)))
      (pss_cons (ps_set (i := 2) scLaw.nd rfl (.inl rfl) (pe_op op_add pe_int (pe_call c_law_take.ok hr (by rfl) c_law_take.g c_law_take.kp c_law_take.b .nil pass0 (pa_cons (pv 1) (pa_cons pe_int pa_nil)))))
      (pss_cons (ps_set (i := 3) scLaw.nd rfl (.inl rfl) (pe_cmpR op_eq (pe_call c_law_take.ok hr (by rfl) c_law_take.g c_law_take.kp c_law_take.b .nil pass0 (pa_cons (pv 1) (pa_cons pe_int pa_nil))) pe_int (nomark _)))
      (pss_mid (ps_set (i := 2) scLaw.nd rfl (.inl rfl) (pe_ifExp (pt_val (pv 3)) pe_int (pv 2)))
      (pss_cons (SwD.ps_retag (ps_set (i := 4) scLaw.nd rfl (.inr rfl) (pe_make TC.made (calm_fn GWI) hr (by rfl) TC.g bWI .nil pass0 (pa_cons (pe_call c_law_ranges.ok hr (by rfl) c_law_ranges.g c_law_ranges.kp c_law_ranges.b .nil pass0 (pa_cons (pv 1) (pa_cons (pv 2) (pa_cons pe_int pa_nil)))) pa_nil))))
      (pss_cons (SwD.ps_retag (ps_set (i := 5) scLaw.nd rfl (.inr rfl) pe_dnewK))
      (pss_cons (ps_for PassesOwn.never rfl (pi_list (pe_slice (r := rSlL K) sl_list (pe_call c_law_shuffled.ok hr (by rfl) c_law_shuffled.g c_law_shuffled.kp c_law_shuffled.b .nil pass0 (pa_cons (pv 1) (pa_cons (pe_call c_law_pairs.ok hr (by rfl) c_law_pairs.g c_law_pairs.kp c_law_pairs.b .nil pass0 (pa_cons (pv 2) pa_nil)) pa_nil))) po_none (po_some (pe_op op_mul pe_int (pe_callTy call_int1 (by rfl) T.int (by decide +kernel) (pa_cons (pv 3) pa_nil)))))) (pg_tup rfl (pgs_cons (pg_name (i := 6) scLaw.nd rfl (Or.inl rfl)) (pgs_cons (pg_name (i := 7) scLaw.nd rfl (Or.inl rfl)) pgs_nil)))
        (pss_cons (ps_expr (pe_meth (pv 4) TC.cl mB (calm_fn GB) hr bB vB pass0 (pa_cons (pv 6) (pa_cons (pv 7) pa_nil))))
        (pss_one (ps_dput hu (pv 5) (pe_tup (pa_cons (pv 6) (pa_cons (pv 7) pa_nil))) (pe_tup (pa_cons pe_int (pa_cons pe_bl pa_nil))) rfl))))
      (pss_cons (ps_for PassesOwn.never rfl (pi_range1 (by rfl) T.range (pa_cons (pe_op op_add pe_int (pe_call c_law_take.ok hr (by rfl) c_law_take.g c_law_take.kp c_law_take.b .nil pass0 (pa_cons (pv 1) (pa_cons pe_int pa_nil)))) pa_nil)) (pg_name (i := 8) scLaw.nd rfl (Or.inl rfl))
        (pss_cons (ps_set (i := 9) scLaw.nd rfl (.inr rfl) (pe_call c_law_tie_deed.ok hr (by rfl) c_law_tie_deed.g c_law_tie_deed.kp c_law_tie_deed.b .nil pass0 (pa_cons (pv 1) (pa_cons (pv 2) (pa_cons (pv 5) pa_nil)))))
        (pss_cons (ps_asg (pv 9) (pg_tup rfl (pgs_cons (pg_name (i := 10) scLaw.nd rfl (Or.inl rfl)) (pgs_cons (pg_name (i := 6) scLaw.nd rfl (Or.inl rfl)) (pgs_cons (pg_name (i := 7) scLaw.nd rfl (Or.inl rfl)) (pgs_cons (pg_name (i := 11) scLaw.nd rfl (Or.inl rfl)) pgs_nil))))))
        (pss_cons (ps_set (i := 12) scLaw.nd rfl (.inl rfl) (pe_tup (pa_cons (pe_callB (call_min2 rfl) (by rfl) mMin (by decide +kernel) (pa_cons (pv 6) (pa_cons (pv 7) pa_nil))) (pa_cons (pe_callB (call_max2 rfl) (by rfl) mMax (by decide +kernel) (pa_cons (pv 6) (pa_cons (pv 7) pa_nil))) pa_nil))))
        (pss_mid (ps_set (i := 13) scLaw.nd rfl (.inl rfl) (pe_call c_law_refused.ok hr (by rfl) c_law_refused.g c_law_refused.kp c_law_refused.b .nil pass0 (pa_cons (pv 2) (pa_cons (pv 5) (pa_cons (pv 9) pa_nil)))))
        (pss_mid (ps_if (pt_not (pt_val (pe_call c_law_same.ok hr (by rfl) c_law_same.g c_law_same.kp c_law_same.b .nil pass0 (pa_cons (pe_lamcall (T := [(PT, qL), (PU, qU)]) (TT := TTwhy K x.H x.T x.M CU CO CL CS) (a := "_law_ask") (g := gW) (c := cT) (P := PT) (k := 9) (Ng := ["_law_ask", "e"]) (t := fun E => tCall (spActed c x [(PT, qL), (PU, qU)]) [] E (tCons (tVar 4) (tCons (tVar 9) tNil))) (by rfl) gw kw lkw cw bw scWhy rfl (Or.inl rfl) (why_gives WT) TB rfl (List.mem_cons.mpr (.inl rfl)) (fun p hp e => by simp only [List.mem_cons, List.not_mem_nil, or_false] at hp; rcases hp with rfl | rfl; exact rfl; exact absurd e.symm nPU) hr (lamS_by (sc := defScope sLaw) (by decide +kernel)) (by rfl) (fun _ _ _ _ _ => by rfl)
        (fun A outer s H E f c' hr2 => pe_call c_law_acted.ok hr2 (by rfl) c_law_acted.g c_law_acted.kp c_law_acted.b .nil (passes_call (takes_of rfl rfl rfl rfl) (fun _ _ _ _ h => h)) (pa_cons (pv 4) (pa_cons (pv 9) pa_nil)))) (pa_cons (pe_orT (pv 13) (pe_one (pe_tup (pa_cons pe_str (pa_cons pe_non pa_nil))))) pa_nil)))))
          (pss_one (ps_ret pe_bl))
          pss_nil)
        (pss_mid (ps_if (PW.pt (pw_and (pt_cmpR op_isN (pv 13) pe_non (nomark _)) (pw_and1 (pt_cmpR op_eq (pv 10) pe_str (nomark _)))))
          (pss_one (ps_expr (pe_bm PySem.F.plainAttrs_dict PySem.F.slot_dict_pop PySem.F.type_dict_pop (mt_popT1 hu) (pv 5) (pa_cons (pv 12) pa_nil))))
          (pss_one (ps_if (pt_cmpR op_isN (pv 13) pe_non (nomark _))
            (pss_cons (ps_set (i := 14) scLaw.nd rfl (.inl rfl) (pe_dget2 hu (pv 5) (pv 12) (pe_tup (pa_cons (pv 11) (pa_cons pe_bl pa_nil))) ⟨rfl, rfl, rfl, rfl⟩))
            (pss_one (ps_dput hu (pv 5) (pv 12) (pe_tup (pa_cons (pe_ifExp (pt_cmpR op_eq (pv 10) pe_str (nomark _)) (pv 11) (pe_ix (r := rIxT K) ix_tup (pv 14) pe_int (fun _ _ => rfl))) (pa_cons (pe_ifExp (pt_cmpR op_eq (pv 10) pe_str (nomark _)) (pe_ix (r := rIxT K) ix_tup (pv 14) pe_int (fun _ _ => rfl)) (pe_cmpR op_ne (pv 10) pe_str (nomark _))) pa_nil))) rfl)))
            pss_nil)))
        (pss_cons (ps_setLc (i := 15) (own := [("_law_key", 16)]) (g := (gName 16)) (tt := tYes) rfl scLaw.nd rfl rfl (sw_true rfl rfl rfl (by decide +kernel)) (by exact (pi_list (pe_callB (call_sortedDT rfl) (by rfl) T.sorted (by decide +kernel) (pa_cons (pv 5) pa_nil)))) (blkOk_by (own := [("_law_key", 16)]) (N := ["_law_script", "_law_box_here", "_law_many", "_law_packed", "_law_web", "_law_ties", "_law_one", "_law_other", "_law_turn", "_law_deed", "_law_word", "_law_cost", "_law_tie", "_law_due", "_law_elder", "_law_rows", "_law_key"]) (sc := (defScope sLaw)) (by decide +kernel)) (fun _ _ _ _ _ => by exact (pg_name (i := 16) scLaw.nd rfl (Or.inl rfl))) (fun _ _ _ _ _ => by exact pts_nil) (fun _ _ _ _ _ => by exact (pe_op (r := rCatT K) op_catT (pv 16) (pe_dget hu (pv 5) (pv 16) (fun _ _ => rfl)))))
        (pss_cons (ps_if (pt_not (pt_val (pe_call c_law_same.ok hr (by rfl) c_law_same.g c_law_same.kp c_law_same.b .nil pass0 (pa_cons (pe_meth0 (pv 4) TC.cl mTi GTi hr bTi .nil pass0) (pa_cons (pv 15) pa_nil)))))
          (pss_one (ps_ret pe_bl))
          pss_nil)
        (pss_cons (ps_expr (pe_bm0 PySem.F.plainAttrs_list PySem.F.slot_list_clear PySem.F.type_list_clear mt_clear (pe_meth0 (pv 4) TC.cl mTi GTi hr bTi .nil pass0)))
        (pss_one (ps_if (pt_not (pt_val (pe_bm PySem.F.plainAttrs_str PySem.F.slot_str_startswith PySem.F.type_str_startswith mt_startswith (pe_callB (SwO.call_reprOwn Grepr mrepr nrepr brepr hr.in1 hrep) (by rfl) mRepr (by decide +kernel) (pa_cons (pv 4) pa_nil)) (pa_cons (pe_op op_add_str (pe_op op_add_str (pe_op op_add_str (pe_op op_add_str pe_str (pe_callTy call_str_int (by rfl) T.str (by decide +kernel) (pa_cons (pv 2) pa_nil))) pe_str) (pe_callTy call_str_int (by rfl) T.str (by decide +kernel) (pa_cons (pe_callB call_len_dT (by rfl) T.len PySem.boot_len (pa_cons (pv 5) pa_nil)) pa_nil))) pe_str) pa_nil))))
          (pss_one (ps_ret pe_bl))
          pss_nil))))))))))))
      (pss_one (ps_ret pe_bl)))))))))), ?_⟩
    refine ⟨_, rfl, a0, ns, rfl, hS, hlen, fun p q H1 np nq B1 s1 => ?_⟩
    have T1 := hT.ext s1
    have tb : ∀ {Hx Hy : Hp}, Tabs [(PT, qL), (PU, qU)] Hx → BoxAt Hx p q → But p Hx Hy → Tabs [(PT, qL), (PU, qU)] Hy := fun t b u => by
      obtain ⟨ms, i, u1, u2, hp, _⟩ := b
      exact tabs_off t (as := [p]) (fun y o e n => u y o e (fun z => n (by rw [z]; simp))) (fun y hy o ho => by rw [List.mem_singleton.mp hy, hp] at ho; rw [← Option.some.inj ho]; exact plain_lst _)
    refine ⟨_, rfl, p, q, 7, rfl, B1, by omega, by omega, fun z2 H2 a0' a1' B2 b2 => ?_⟩
    have T2 := tb T1 B1 b2
    refine ⟨_, _, rfl, rfl, ?_⟩
    refine ⟨_, rfl, p, q, 4, rfl, B2, by omega, by omega, fun z3 H3 c0' c1' B3 b3 => ?_⟩
    have T3 := tb T2 B2 b3
    refine ⟨rfl, ?_⟩
    refine ⟨fun σ H' => ∃ (n : Nat) (pk : Bool), 2 ≤ n ∧ n ≤ 8 ∧ H' = H3 ∧ σ = [some (.ref a0), some (.ref p), some (.int (n : Nat)), some (.bl pk), none, none, none, none, none, none, none, none, none, none, none, none, none], ?_, ?_⟩
    · refine ⟨_, rfl, _, rfl, ?_⟩
      cases decide (V.int z3 = V.int 0) with
      | true => exact iteT ⟨8, true, by decide, by decide, rfl, rfl⟩
      | false =>
        refine iteF ⟨_, rfl, ?_⟩
        obtain ⟨m, rfl⟩ : ∃ m : Nat, z2 = (m : Nat) := ⟨z2.toNat, by omega⟩
        exact ⟨2 + m, false, by omega, by omega, rfl, by rw [show ((2 + m : Nat) : Int) = 2 + (m : Int) by omega]; rfl⟩
    rintro σ H' ⟨n, pk, n2, n8, rfl, rfl⟩
    -- the web
    refine ⟨_, rfl, _, rfl, p, q, n, 9, rfl, B3, by omega, .inr rfl, fun l rs H4 lr hg nl hR B4 b4 => ?_⟩
    have T4 := tb T3 B3 b4
    obtain ⟨ts, hl4, hts4⟩ := hR
    refine fun xw dxw nx ndx ne => ?_
    have s5 : Same H4 (upd (upd H4 dxw (.own xw)) xw (.ins c.W dxw [])) := fun y o e => by rw [upd_ne (ne_of_none e nx), upd_ne (ne_of_none e ndx)]; exact e
    refine ⟨xw, dxw, l, rs, rfl, upd_same, ⟨ts, s5 _ _ hl4, paired_mono (fun t r z => s5 _ _ z) hts4⟩, hg, by omega, fun hbad => absurd hbad (by omega), fun hgood wa H5 ex o5 F5 sep nhl nls => ⟨rfl, ?_⟩⟩
    have up : ∀ {y o}, H4 y = some o → H5 y = some o := fun e => o5 _ _ (s5 _ _ e) (fun z => by rw [List.mem_singleton.mp z, nx] at e; cases e)
    refine ⟨[wa.b, wa.ml], fun y hy => ?_, ?_, ?_⟩
    · simp only [List.mem_cons, List.not_mem_nil, or_false] at hy
      rcases hy with rfl | rfl
      · exact F5.b
      · exact F5.ml
    · simp [sep.bm]
    have W6 := begin_tw F5 sep.bm sep.bb sep.mb sep.ds sep.td
    show tSeq _ _ _ _ (upd (upd H5 wa.b (.dT [])) wa.ml (.dT []))
    have k6 : ∀ {y o}, H5 y = some o → o ≠ .dK [] → upd (upd H5 wa.b (.dT [])) wa.ml (.dT []) y = some o := fun {y o} e n => by
      rw [upd_ne (fun z => n (by rw [z, F5.ml] at e; exact (Option.some.inj e).symm)), upd_ne (fun z => n (by rw [z, F5.b] at e; exact (Option.some.inj e).symm))]; exact e
    obtain ⟨bm, bi, bt, bv, hp4, hq4, hrest⟩ := B4
    have hp6 := k6 (up hp4) (fun z => by cases z)
    have hq6 := k6 (up hq4) (fun z => by cases z)
    have B6 : BoxAt (upd (upd H5 wa.b (.dT [])) wa.ml (.dT [])) p q := ⟨bm, bi, bt, bv, hp6, hq6, hrest⟩
    have na : p ∉ wa.adr := begin_na F5 (up hp4) (s5 _ _ hp4) nhl nls
    have npm := begin_nm W6 hp6
    have nqm := begin_nm W6 hq6
    have T5 : Tabs [(PT, qL), (PU, qU)] H5 := tabs_off (tabs_off T4 (as := []) (fun y o e _ => s5 _ _ e) (fun y hy => by cases hy)) (as := [xw]) o5 (fun y hy u hu => by rw [List.mem_singleton.mp hy, upd_same] at hu; rw [← Option.some.inj hu]; exact plain_ins _ _ _)
    have T6 : Tabs [(PT, qL), (PU, qU)] (upd (upd H5 wa.b (.dT [])) wa.ml (.dT [])) := tabs_put (tabs_put T5 F5.b (plain_dK _)) (u := .dK []) (by rw [upd_ne (Ne.symm sep.bm)]; exact F5.ml) (plain_dK _)
    generalize upd (upd H5 wa.b (.dT [])) wa.ml (.dT []) = H6 at *
    -- the ties
    refine fun lt nlt => ⟨[lt], (fun y hy => by rw [List.mem_singleton.mp hy]; exact upd_same), (by simp), ?_⟩
    show tSeq _ _ _ _ (upd (upd H6 lt (.dK [])) lt (.dT []))
    rw [upd_upd]
    have s7 := same_upd (o := .dT []) nlt
    have L7 : LawS (upd H6 lt (.dT [])) c wa rs [] [] [] 0 p q lt [(PT, qL), (PU, qU)] := ⟨B6.same s7, W6.same s7, ⟨[], upd_same, .nil⟩, T6.ext s7, na, npm, nqm, fun z => by
      obtain ⟨u, hu, _⟩ := W6.plain lt z
      rw [nlt] at hu; cases hu⟩
    generalize upd H6 lt (.dT []) = H7 at *
    refine ⟨_, rfl, _, rfl, n, rfl, by omega, n8, fun r1 H8 as nr1 s8 hr1 hpr => ?_⟩
    have L8 := L7.same s8
    have nr1p : r1 ≠ p := fun z => by
      obtain ⟨o, e⟩ := L7.box.p_some
      rw [← z, nr1] at e; cases e
    have las : as.length ≤ 64 := by rw [paired_len hpr]; exact pairsL_len n n8
    refine ⟨p, q, r1, as.map V.ref, rfl, L8.box, nr1p, hr1, by rw [List.length_map]; omega, fun r2 H9 ys nr2 B9 b9 hr2 perm => ?_⟩
    have L9 := L8.but B9 b9
    obtain ⟨as2, rfl, pas⟩ := perm_refs perm
    obtain ⟨ps2, pps, hps2⟩ := paired_perm pas.symm hpr
    have hps9 : PairsP H9 as2 ps2 := paired_mono (fun t k e => b9 _ _ e (fun z => by
      obtain ⟨ms, u1, u2, u3, hp, _⟩ := L8.box
      rw [z, hp] at e; cases e)) hps2
    have nd2 : ps2.Nodup := pps.nodup_iff.mpr (pairsL_nodup n n8)
    have inn : ∀ k ∈ ps2, k.1 < k.2 ∧ k.2 < n := fun k mk => pairsL_mem (pps.mem_iff.mp mk)
    have nr2p : r2 ≠ p := fun z => by
      obtain ⟨o, e⟩ := L8.box.p_some
      rw [← z, nr2] at e; cases e
    obtain ⟨cn, ecn, hcn⟩ : ∃ cn : Nat, (14 : Int) * (if pk = true then 1 else 0) = (cn : Int) ∧ cn ≤ 14 := by
      cases pk
      · exact ⟨0, rfl, by decide⟩
      · exact ⟨14, rfl, by decide⟩
    refine ⟨_, rfl, .inr ⟨pk, rfl, ?_⟩⟩
    refine ⟨_, _, rfl, rfl, .inl ⟨by decide, by decide⟩, ?_⟩
    refine ⟨_, rfl, r2, _, rfl, SqL.of hr2, fun sl nsl => ?_⟩
    rw [ecn, cut_take, ← List.map_take]
    have s10 := same_upd (o := .lst ((as2.take cn).map V.ref)) nsl
    have L10 := L9.same s10
    have hsl := upd_same (H := H9) (a := sl) (o := .lst ((as2.take cn).map V.ref))
    have hps10 : PairsP (upd H9 sl (.lst ((as2.take cn).map V.ref))) (as2.take cn) (ps2.take cn) := paired_take cn (paired_mono (fun t k e => s10 _ _ e) hps9)
    have slp : sl ≠ p := fun z => by
      obtain ⟨o, e⟩ := L9.box.p_some
      rw [← z, nsl] at e; cases e
    have slm : sl ∉ mutW wa [] := fun z => by
      obtain ⟨u, hu, _⟩ := L9.web.plain sl z
      rw [nsl] at hu; cases hu
    generalize upd H9 sl (.lst ((as2.take cn).map V.ref)) = H10 at *
    have lcn : (as2.take cn).length ≤ 14 := by rw [List.length_take]; omega
    refine ⟨sl, rfl, ⟨_, SqL.of hsl⟩, ?_⟩
    refine for_list (K := K) (a := sl) (xs := (as2.take cn).map V.ref) (fun j σ H' => j ≤ 14 ∧ (∃ y6 y7, σ = [some (.ref a0), some (.ref p), some (.int (n : Nat)), some (.bl pk), some (.ref wa.x), some (.ref lt), y6, y7, none, none, none, none, none, none, none, none, none]) ∧ H' sl = some (.lst ((as2.take cn).map V.ref)) ∧ PairsP H' (as2.take cn) (ps2.take cn) ∧
        ∃ ro, sl ∉ mutW wa ro ∧ LawS H' c wa rs (bsOf (ps2.take j)) (bsOf (ps2.take j)) ro (2 * j) p q lt [(PT, qL), (PU, qU)]) ⟨Nat.zero_le _, ⟨_, _, by rw [ex]; rfl⟩, hsl, hps10, [], slm, L10⟩ (fun j σ H' _ e => SqL.of e.2.2.1) ?_ ?_
    · rintro j y σ H11 hy ⟨j14, ⟨y6, y7, rfl⟩, hsl11, hps11, ro, slm11, L11⟩
      rw [List.getElem?_map] at hy
      obtain ⟨t, et, rfl⟩ := Option.map_eq_some_iff.mp hy
      obtain ⟨k, ek, htk⟩ := paired_at hps11 j t et
      have jc : j < cn := by have := (List.getElem?_eq_some_iff.mp ek).1; rw [List.length_take] at this; omega
      have ek2 : ps2[j]? = some k := by rw [List.getElem?_take_of_lt jc] at ek; exact ek
      obtain ⟨k1, k2⟩ := inn k (List.mem_of_getElem? ek2)
      have lrs : rs.length = n := lr
      have hin1 : inH rs.length (k.1 : Int) := ⟨by omega, by rw [lrs]; omega⟩
      have hin2 : inH rs.length (k.2 : Int) := ⟨by omega, by rw [lrs]; omega⟩
      have nk := nodup_take nd2 ek2
      have lbs : (bsOf (ps2.take j)).length = j := by
        unfold bsOf
        rw [List.length_map, List.length_take]
        have := (List.getElem?_eq_some_iff.mp ek2).1
        omega
      have hg0 : bget (bsOf (ps2.take j)) (srt (k.1 : Int) (k.2 : Int)) = none := by rw [srt_ik k1]; exact bsOf_new nk
      refine ⟨t, _, rfl, SqT.of htk, rfl, _, _, rfl, _, _, rfl, rfl, ?_⟩
      refine ⟨_, rfl, wa.x, wa.dx, _, rfl, L11.web.st.me, rfl, _, rfl, _, rfl, ?_⟩
      refine ⟨wa, rs, bsOf (ps2.take j), ro, 2 * j, (k.1 : Int), (k.2 : Int), 1, rfl, L11.web, by omega, low_small (by omega) (by omega), low_small (by omega) (by omega), ⟨fun z => absurd hin1 z, fun _ z => absurd hin2 z⟩, fun _ _ z => absurd z (by omega), fun _ _ _ v z => (by rw [hg0] at z; cases z), fun _ _ _ _ => ⟨fun z => absurd ⟨by decide, by decide⟩ z, fun _ z => absurd z (by omega), fun _ _ H12 rr nrr o12 W12 => ?_⟩⟩
      have em : ∀ y ∈ mutW wa (ro ++ rr), y ∈ mutW wa ro ∨ H11 y = none := fun y hy => by
        simp only [mutW, TW.mut, List.mem_append, List.mem_cons, List.not_mem_nil, or_false] at hy ⊢
        rcases hy with h | (h | h | h) | h
        · exact .inl (.inl h)
        · exact .inl (.inr (.inl (.inl h)))
        · exact .inl (.inr (.inl (.inr h)))
        · exact .inr (nrr y h)
        · exact .inl (.inr (.inr h))
      have o12' : Off (mutW wa ro) H11 H12 := o12.sub (fun y hy => mem_mut hy)
      have L12 := L11.done em (OffN.of o12') (L11.web.tabs L11.tabs o12') (fun y u _ _ _ z => z) W12
      have tup12 : ∀ y xs, H11 y = some (.tup xs) → H12 y = some (.tup xs) := fun y xs e => o12' _ _ e (fun m => by
        obtain ⟨w, hw, _, nt⟩ := L11.web.plain y m
        rw [e] at hw
        exact nt _ (Option.some.inj hw).symm)
      have hsl12 := o12' _ _ hsl11 slm11
      have hps12 : PairsP H12 (as2.take cn) (ps2.take cn) := paired_mono (fun t k e => tup12 _ _ e) hps11
      have slm12 : sl ∉ mutW wa (ro ++ rr) := fun z => (em _ z).elim slm11 (fun e => by rw [e] at hsl11; cases hsl11)
      -- the law's own
      refine ⟨(by show 2 ≤ sizeLine; decide), fun u1 nu1 => ?_⟩
      have s13 := same_upd (o := .tup [.int 1, .bl true]) nu1
      have hu1 := upd_same (H := H12) (a := u1) (o := .tup [.int 1, .bl true])
      have L13 := L12.same s13
      have hsl13 := s13 _ _ hsl12
      have hps13 : PairsP (upd H12 u1 (.tup [.int 1, .bl true])) (as2.take cn) (ps2.take cn) := paired_mono (fun t k e => s13 _ _ e) hps12
      generalize upd H12 u1 (.tup [.int 1, .bl true]) = H13 at *
      refine ⟨_, rfl, _, rfl, _, rfl, (by show 2 ≤ sizeLine; decide), fun u2 nu2 => ?_⟩
      have s14 := same_upd (o := .tup [.int (k.1 : Nat), .int (k.2 : Nat)]) nu2
      have hu2 := upd_same (H := H13) (a := u2) (o := .tup [.int (k.1 : Nat), .int (k.2 : Nat)])
      have L14 := L13.same s14
      have hu1' := s14 _ _ hu1
      have hsl14 := s14 _ _ hsl13
      have hps14 : PairsP (upd H13 u2 (.tup [.int (k.1 : Nat), .int (k.2 : Nat)])) (as2.take cn) (ps2.take cn) := paired_mono (fun t k e => s14 _ _ e) hps13
      generalize upd H13 u2 (.tup [.int (k.1 : Nat), .int (k.2 : Nat)]) = H14 at *
      obtain ⟨kvl, hlt14, hp14⟩ := L14.d
      refine ⟨lt, _, rfl, DPut.t (k := kp (ik k)) hlt14 hu2 (by rw [paired_len hp14, lbs]; exact small1000 (by omega)), ?_⟩
      have eb : bsOf (ps2.take (j + 1)) = bsOf (ps2.take j) ++ [(ik k, ((1 : Int), true))] := by
        unfold bsOf
        rw [List.take_add_one, ek2, List.map_append]
        rfl
      have L15 := L14.put (bond_new (k := ik k) (v := ((1 : Int), true)) hp14 (by rw [bsOf_keys]; exact fun z => by obtain ⟨y, my, ey⟩ := List.mem_map.mp z; exact nk (by rw [← ik_inj ey]; exact my)) hu1')
      rw [srt_ik k1] at L15
      refine ⟨by omega, ⟨_, _, rfl⟩, ?_, ?_, ro ++ rr, slm12, by rw [eb]; exact L15⟩
      · rw [upd_ne (fun z => by rw [z, hlt14] at hsl14; cases hsl14)]
        exact hsl14
      · exact paired_mono (fun t k e => by rw [upd_ne (fun z => by rw [z, hlt14] at e; cases e)]; exact e) hps14
    · rintro σ H11 ⟨_, ⟨y6, y7, rfl⟩, hsl11, hps11, ro, slm11, L11⟩
      have L11 : LawS H11 c wa rs (bsOf (ps2.take ((as2.take cn).map V.ref).length)) (bsOf (ps2.take ((as2.take cn).map V.ref).length)) ro 28 p q lt [(PT, qL), (PU, qU)] := ⟨L11.box, L11.web.more (by rw [List.length_map]; omega), L11.d, L11.tabs, L11.pa, L11.pm, L11.qm, L11.lm⟩
      generalize bsOf (ps2.take ((as2.take cn).map V.ref).length) = bs0 at *
      have lrs : rs.length = n := lr
      clear hps11 hsl11 slm11
      refine ⟨_, rfl, p, q, 29, rfl, L11.box, by omega, by omega, fun z12 H12 g0 g1 B12 b12 => ?_⟩
      have L12 := L11.but B12 b12
      obtain ⟨zm, rfl⟩ : ∃ zm : Nat, z12 = (zm : Nat) := ⟨z12.toNat, by omega⟩
      refine ⟨_, _, rfl, rfl, 12 + (zm : Int), rfl, by omega, by omega, ?_⟩
      refine for_range (lo := 0) (n := (12 + (zm : Int)).toNat) (fun i σ H' => i ≤ 40 ∧ (∃ y6 y7 y8 y9 y10 y11 y12 y13 y14 y15 y16, σ = [some (.ref a0), some (.ref p), some (.int (n : Nat)), some (.bl pk), some (.ref wa.x), some (.ref lt), y6, y7, y8, y9, y10, y11, y12, y13, y14, y15, y16]) ∧
          ∃ a bs ro, a.x = wa.x ∧ LawS H' c a rs bs bs ro (28 + 2 * i) p q lt [(PT, qL), (PU, qU)]) ⟨Nat.zero_le _, ⟨_, _, _, _, _, _, _, _, _, _, _, rfl⟩, wa, bs0, ro, rfl, L12⟩ ?_ ?_
      · rintro i σ H13 hi ⟨i40, ⟨y6, y7, y8, y9, y10, y11, y12, y13, y14, y15, y16, rfl⟩, a, bs, ro, eax, L13⟩
        have i39 : i ≤ 39 := by omega
        obtain ⟨kvl, hlt13, hp13⟩ := L13.d
        -- the deed
        refine ⟨_, rfl, _, rfl, _, rfl, p, q, lt, n, kvl, bs, rfl, L13.box, by omega, n8, hlt13, hp13, L13.web.small, L13.web.few, fun d w u v z H14 isd lu lv nd hd B14 b14 => ?_⟩
        have L14 := L13.but B14 b14
        refine ⟨_, rfl, d, _, rfl, SqT.of hd, rfl, _, _, rfl, _, _, rfl, _, _, rfl, _, _, rfl, rfl, ?_⟩
        refine ⟨_, rfl, _, rfl, u, v, rfl, _, rfl, _, rfl, u, v, rfl, (by show 2 ≤ sizeLine; decide), fun t1 n1 => ?_⟩
        have s15 := same_upd (o := .tup [.int (if v < u then v else u), .int (if v > u then v else u)]) n1
        have ht1 : upd H14 t1 (.tup [.int (if v < u then v else u), .int (if v > u then v else u)]) t1 = some (.tup [.int (srt u v).1, .int (srt u v).2]) := upd_same
        have L15 := L14.same s15
        have hd15 := s15 _ _ hd
        generalize upd H14 t1 (.tup [.int (if v < u then v else u), .int (if v > u then v else u)]) = H15 at *
        -- what is due
        obtain ⟨kvl15, hlt15, hp15⟩ := L15.d
        refine ⟨fun σ H' => ∃ due : V, σ = [some (.ref a0), some (.ref p), some (.int (n : Nat)), some (.bl pk), some (.ref wa.x), some (.ref lt), some (.int u), some (.int v), some (.int (0 + (i : Int))), some (.ref d), some (.str w), some (.int z), some (.ref t1), some due, y14, y15, y16] ∧
            LawS H' c a rs bs bs ro (28 + 2 * i) p q lt [(PT, qL), (PU, qU)] ∧ H' d = some (.tup [.str w, .int u, .int v, .int z]) ∧ H' t1 = some (.tup [.int (srt u v).1, .int (srt u v).2]) ∧
            ((refuse rs.length bs w u v z = none ∧ due = .non) ∨ ∃ y t, refuse rs.length bs w u v z = some y ∧ due = .ref t ∧ H' t = some (.tup (whyV u v y))), ?_, ?_⟩
        · refine ⟨_, rfl, _, rfl, _, rfl, n, lt, d, kvl15, bs, w, u, v, z, rfl, hlt15, hp15, (by rw [← lrs]; exact L15.web.ok), L15.web.few, hd15, isd, fun hN H16 s16 => ?_, fun y hy H16 t s16 nt ht => ?_⟩
          · exact ⟨.non, rfl, L15.same s16, s16 _ _ hd15, s16 _ _ ht1, .inl ⟨by rw [lrs]; exact hN, rfl⟩⟩
          · exact ⟨.ref t, rfl, L15.same s16, s16 _ _ hd15, s16 _ _ ht1, .inr ⟨y, t, by rw [lrs]; exact hy, rfl, ht⟩⟩
        rintro σ H16 ⟨due, rfl, L16, hd16, ht16, hdue⟩
        -- the deed is done or refused
        refine ⟨fun σ H' => ∃ (due : V) (a' : WebA) (bs' : List Bond) (ro' : List Addr), σ = [some (.ref a0), some (.ref p), some (.int (n : Nat)), some (.bl pk), some (.ref wa.x), some (.ref lt), some (.int u), some (.int v), some (.int (0 + (i : Int))), some (.ref d), some (.str w), some (.int z), some (.ref t1), some due, y14, y15, y16] ∧
            a'.x = wa.x ∧ LawS H' c a' rs bs' bs ro' (28 + 2 * (i + 1)) p q lt [(PT, qL), (PU, qU)] ∧ H' t1 = some (.tup [.int (srt u v).1, .int (srt u v).2]) ∧
            ((refuse rs.length bs w u v z = none ∧ due = .non ∧ bs' = after bs w u v z) ∨ ∃ y t, refuse rs.length bs w u v z = some y ∧ due = .ref t ∧ bs' = bs), ?_, ?_⟩
        · refine ⟨L16.tabs, fun H17 e17 T17 => ?_⟩
          have L17 := L16.ext e17 T17
          have tup17 : ∀ {y xs}, H16 y = some (.tup xs) → H17 y = some (.tup xs) := fun e => e17 _ _ e (fun ps z => by cases z)
          have hd17 := tup17 hd16
          have ht17 := tup17 ht16
          refine ⟨_, rfl, _, rfl, a, rs, bs, ro, 28 + 2 * i, w, u, v, z, d, (by rw [eax]; rfl), hd17, isd, L17.web, by omega, lu, lv, T17, fun y hy => refX_why WF (fun H18 t s18 nt => ?_), fun hN H18 a' ro' ex' em' o18 T18 ap18 W18 => ⟨(by show 2 ≤ sizeLine; decide), fun tp ntp => ?_⟩⟩
          · rcases hdue with ⟨z1, _⟩ | ⟨y', t', hy', rfl, ht'⟩
            · rw [hy] at z1; cases z1
            rw [hy] at hy'
            cases hy'
            have s19 : Same H17 (upd H18 t (.tup (whyV u v y))) := s18.trans (same_upd nt)
            have ht'19 := s19 _ _ (tup17 ht')
            have ht19 := upd_same (H := H18) (a := t) (o := .tup (whyV u v y))
            generalize upd H18 t (.tup (whyV u v y)) = H19 at *
            refine ⟨_, rfl, true, .inr (.inl ⟨_, SqT.of ht'19, (by cases y <;> rfl)⟩), iteT ?_⟩
            refine ⟨_, _, rfl, eqv_flatL ht19 ht'19 (by cases y <;> simp [whyV]) (fun x hx => by
              cases y with
              | nohouse h => simp only [whyV, List.mem_cons, List.not_mem_nil, or_false] at hx; rcases hx with rfl | rfl <;> rfl
              | notie => simp only [whyV, List.mem_cons, List.not_mem_nil, or_false] at hx; rcases hx with rfl | rfl | rfl <;> rfl
              | word k => simp only [whyV, List.mem_cons, List.not_mem_nil, or_false] at hx; rcases hx with rfl; rfl
              | toomany => simp only [whyV, List.mem_cons, List.not_mem_nil, or_false] at hx; rcases hx with rfl | rfl <;> rfl), fun H20 s20 => ⟨_, rfl, iteF ?_⟩⟩
            have L20 := (L17.same s19).same s20
            exact ⟨.ref t', a, bs, ro, rfl, eax, ⟨L20.box, L20.web.more (by omega), L20.d, L20.tabs, L20.pa, L20.pm, L20.qm, L20.lm⟩, s20 _ _ (s19 _ _ ht17), .inr ⟨y, t', hy, rfl, rfl⟩⟩
          · rcases hdue with ⟨_, rfl⟩ | ⟨y', t', hy', _, _⟩
            rotate_left
            · rw [hN] at hy'; cases hy'
            have L18 := L17.done em' o18 T18 ap18 W18
            have ht18 : H18 t1 = some (.tup [.int (srt u v).1, .int (srt u v).2]) := o18 _ _ ht17 (fun ps z => by cases z) (fun m => by
              obtain ⟨k, hk, _, nt⟩ := L17.web.plain t1 m
              rw [ht17] at hk
              exact nt _ (Option.some.inj hk).symm)
            have s19 := same_upd (o := .tup [.str "told", .non]) ntp
            have htp := upd_same (H := H18) (a := tp) (o := .tup [.str "told", .non])
            generalize upd H18 tp (.tup [.str "told", .non]) = H19 at *
            refine ⟨_, rfl, false, rfl, iteF ⟨(by show 2 ≤ sizeLine; decide), fun t2 nt2 => ?_⟩⟩
            have s20 := same_upd (o := .tup [.str "told", .non]) nt2
            have htp' := s20 _ _ htp
            refine ⟨_, _, rfl, eqv_flatL (xs := [.str "told", .non]) htp' upd_same (by show 2 ≤ 1000; decide) (fun x hx => by simp only [List.mem_cons, List.not_mem_nil, or_false] at hx; rcases hx with rfl | rfl <;> rfl), fun H21 s21 => ⟨_, rfl, iteF ?_⟩⟩
            have sA := s19.trans (s20.trans s21)
            have L21 := L18.same sA
            exact ⟨.non, a', after bs w u v z, ro', rfl, ex'.trans eax, ⟨L21.box, L21.web.more (by omega), L21.d, L21.tabs, L21.pa, L21.pm, L21.qm, L21.lm⟩, sA _ _ ht18, .inl ⟨hN, rfl, rfl⟩⟩
        rintro σ H22 ⟨due, a', bs', ro', rfl, eax', L22, ht22, hdue⟩
        -- the law keeps it too
        refine ⟨fun σ H' => ∃ (y13 y14 : Option V) (a' : WebA) (bs' : List Bond) (ro' : List Addr), σ = [some (.ref a0), some (.ref p), some (.int (n : Nat)), some (.bl pk), some (.ref wa.x), some (.ref lt), some (.int u), some (.int v), some (.int (0 + (i : Int))), some (.ref d), some (.str w), some (.int z), some (.ref t1), y13, y14, y15, y16] ∧
            a'.x = wa.x ∧ LawS H' c a' rs bs' bs' ro' (28 + 2 * (i + 1)) p q lt [(PT, qL), (PU, qU)], ?_, ?_⟩
        · refine ⟨_, rfl, rfl, _, rfl, ?_⟩
          rcases hdue with ⟨hN, rfl, rfl⟩ | ⟨y, t, hy, rfl, rfl⟩
          rotate_left
          · refine ifF0 (decide_eq_false (fun z => by cases z)) ⟨_, rfl, rfl, _, rfl, ifF0 (decide_eq_false (fun z => by cases z)) ?_⟩
            exact ⟨_, _, a', bs', ro', rfl, eax', L22⟩
          refine ifT0 (by decide) ⟨_, rfl, rfl, _, rfl, ?_⟩
          obtain ⟨kvl22, hlt22, hp22⟩ := L22.d
          have few : bs.length ≤ 14 := L16.web.few
          have len22 : kvl22.length < sizeLine := by rw [paired_len hp22]; exact small1000 (by omega)
          have dg22 : DGet H22 lt (.ref t1) (valV kvl22 (kp (srt u v))) := DGet.t (k := kp (srt u v)) hlt22 ht22
          rcases isd with rfl | rfl | rfl | rfl | rfl
          · have hb : bget bs (srt u v) = none := ref_new hN
            refine ifF0 (by decide) ⟨_, rfl, rfl, _, rfl, ifT0 (by decide) ?_⟩
            refine ⟨_, rfl, lt, rfl, .inr ⟨_, Rd.of hlt22⟩, _, rfl, _, rfl, (by show 2 ≤ sizeLine; decide), fun e1 ne1 => ?_⟩
            have s23 := same_upd (o := .tup [.int z, .bl true]) ne1
            have he1 := upd_same (H := H22) (a := e1) (o := .tup [.int z, .bl true])
            have L23 := L22.same s23
            have hlt23 := s23 _ _ hlt22
            have ht23 := s23 _ _ ht22
            have hp23 : Paired (BondAt (upd H22 e1 (.tup [.int z, .bl true]))) kvl22 bs := pair_keep hp22 (fun y xs e => s23 _ _ e)
            generalize upd H22 e1 (.tup [.int z, .bl true]) = H23 at *
            refine ⟨_, DGet.t (k := kp (srt u v)) hlt23 ht23, ?_⟩
            rw [(bond_get (k := srt u v) hp23).1 hb]
            refine ⟨_, rfl, rfl, _, rfl, ifF0 (by decide) ⟨_, rfl, e1, _, 0, _, rfl, rfl, SqT.of he1, rfl, ?_⟩⟩
            refine ⟨_, rfl, rfl, _, rfl, ifF0 (by decide) ⟨_, rfl, rfl, (by show 2 ≤ sizeLine; decide), fun e2 ne2 => ?_⟩⟩
            rw [show (!decide (V.str "build" = V.str "snap")) = true from by decide]
            have s24  := same_upd (o := .tup [.int z, .bl true]) ne2
            have he2 := upd_same (H := H23) (a := e2) (o := .tup [.int z, .bl true])
            have L24 := L23.same s24
            have hp24 : Paired (BondAt (upd H23 e2 (.tup [.int z, .bl true]))) kvl22 bs := pair_keep hp23 (fun y xs e => s24 _ _ e)
            have hlt24 := s24 _ _ hlt23
            have ht24 := s24 _ _ ht23
            generalize upd H23 e2 (.tup [.int z, .bl true]) = H24 at *
            refine ⟨_, rfl, _, rfl, lt, _, rfl, DPut.t (k := kp (srt u v)) hlt24 ht24 len22, ?_⟩
            have ea : after bs "build" u v z = bs ++ [(srt u v, (z, true))] := by unfold after; rw [hb]
            refine ⟨_, _, a', after bs "build" u v z, ro', rfl, eax', ?_⟩
            have := L24.put (bond_new (k := srt u v) (v := (z, true)) hp24 (fun m => by obtain ⟨k, hk⟩ := bget_some.mpr m; rw [hb] at hk; cases hk) he2)
            rw [← ea] at this
            exact this
          · obtain ⟨v0, hb⟩ : ∃ v0, bget bs (srt u v) = some v0 := ref_got (by decide) hN
            obtain ⟨tv, hv1, htv⟩ := (bond_get (k := srt u v) hp22).2 v0 hb
            have ea : after bs "charge" u v z = setB bs (srt u v) (z, v0.2) := by unfold after; rw [hb]; show (if _ then _ else _) = _; rw [if_neg (by decide), if_pos rfl]
            refine ifF0 (by decide) ⟨_, rfl, rfl, _, rfl, ifT0 (by decide) ?_⟩
            refine ⟨_, rfl, lt, rfl, .inr ⟨_, Rd.of hlt22⟩, _, rfl, _, rfl, (by show 2 ≤ sizeLine; decide), fun e1 ne1 => ?_⟩
            have s23 := same_upd (o := .tup [.int z, .bl true]) ne1
            have he1 := upd_same (H := H22) (a := e1) (o := .tup [.int z, .bl true])
            have L23 := L22.same s23
            have hlt23 := s23 _ _ hlt22
            have ht23 := s23 _ _ ht22
            have hp23 : Paired (BondAt (upd H22 e1 (.tup [.int z, .bl true]))) kvl22 bs := pair_keep hp22 (fun y xs e => s23 _ _ e)
            have htv23 := s23 _ _ htv
            generalize upd H22 e1 (.tup [.int z, .bl true]) = H23 at *
            refine ⟨_, DGet.t (k := kp (srt u v)) hlt23 ht23, ?_⟩
            rw [hv1]
            refine ⟨_, rfl, rfl, _, rfl, ifT0 (by decide) ⟨_, rfl, ?_⟩⟩
            refine ⟨_, rfl, rfl, _, rfl, ifT0 (by decide) ⟨_, rfl, tv, _, 1, _, rfl, rfl, SqT.of htv23, rfl, (by show 2 ≤ sizeLine; decide), fun e2 ne2 => ?_⟩⟩
            have s24 := same_upd (o := .tup [.int z, .bl v0.2]) ne2
            have he2 := upd_same (H := H23) (a := e2) (o := .tup [.int z, .bl v0.2])
            have L24 := L23.same s24
            have hp24 : Paired (BondAt (upd H23 e2 (.tup [.int z, .bl v0.2]))) kvl22 bs := pair_keep hp23 (fun y xs e => s24 _ _ e)
            have hlt24 := s24 _ _ hlt23
            have ht24 := s24 _ _ ht23
            generalize upd H23 e2 (.tup [.int z, .bl v0.2]) = H24 at *
            refine ⟨_, rfl, _, rfl, lt, _, rfl, DPut.t (k := kp (srt u v)) hlt24 ht24 len22, ?_⟩
            refine ⟨_, _, a', after bs "charge" u v z, ro', rfl, eax', ?_⟩
            have := L24.put (bond_put (k := srt u v) (v := (z, v0.2)) hp24 (bget_some.mp ⟨_, hb⟩) he2)
            rw [← ea] at this
            exact this
          · obtain ⟨v0, hb⟩ : ∃ v0, bget bs (srt u v) = some v0 := ref_got (by decide) hN
            obtain ⟨tv, hv1, htv⟩ := (bond_get (k := srt u v) hp22).2 v0 hb
            have ea : after bs "cut" u v z = delB bs (srt u v) := by unfold after; rw [hb]; show (if _ then _ else _) = _; rw [if_pos rfl]
            refine ifT0 (by decide) ⟨_, rfl, .inr (.inr (.inl ⟨rfl, .inr ⟨_, hlt22⟩⟩)), _, rfl, lt, kvl22, kp (srt u v), t1, .ref tv, rfl, rfl, hlt22, ht22, hv1, ?_⟩
            refine ⟨_, _, a', after bs "cut" u v z, ro', rfl, eax', ?_⟩
            have := L22.put (bond_del (k := srt u v) hp22)
            rw [← ea] at this
            exact this
          · obtain ⟨v0, hb⟩ : ∃ v0, bget bs (srt u v) = some v0 := ref_got (by decide) hN
            obtain ⟨tv, hv1, htv⟩ := (bond_get (k := srt u v) hp22).2 v0 hb
            have ea : after bs "snap" u v z = setB bs (srt u v) (v0.1, false) := by unfold after; rw [hb]; show (if _ then _ else _) = _; rw [if_neg (by decide), if_neg (by decide), if_pos rfl]
            refine ifF0 (by decide) ⟨_, rfl, rfl, _, rfl, ifT0 (by decide) ?_⟩
            refine ⟨_, rfl, lt, rfl, .inr ⟨_, Rd.of hlt22⟩, _, rfl, _, rfl, (by show 2 ≤ sizeLine; decide), fun e1 ne1 => ?_⟩
            have s23 := same_upd (o := .tup [.int z, .bl true]) ne1
            have he1 := upd_same (H := H22) (a := e1) (o := .tup [.int z, .bl true])
            have L23 := L22.same s23
            have hlt23 := s23 _ _ hlt22
            have ht23 := s23 _ _ ht22
            have hp23 : Paired (BondAt (upd H22 e1 (.tup [.int z, .bl true]))) kvl22 bs := pair_keep hp22 (fun y xs e => s23 _ _ e)
            have htv23 := s23 _ _ htv
            generalize upd H22 e1 (.tup [.int z, .bl true]) = H23 at *
            refine ⟨_, DGet.t (k := kp (srt u v)) hlt23 ht23, ?_⟩
            rw [hv1]
            refine ⟨_, rfl, rfl, _, rfl, ifF0 (by decide) ⟨_, rfl, tv, _, 0, _, rfl, rfl, SqT.of htv23, rfl, ?_⟩⟩
            refine ⟨_, rfl, rfl, _, rfl, ifF0 (by decide) ⟨_, rfl, rfl, (by show 2 ≤ sizeLine; decide), fun e2 ne2 => ?_⟩⟩
            rw [show (!decide (V.str "snap" = V.str "snap")) = false from by decide]
            have s24  := same_upd (o := .tup [.int v0.1, .bl false]) ne2
            have he2 := upd_same (H := H23) (a := e2) (o := .tup [.int v0.1, .bl false])
            have L24 := L23.same s24
            have hp24 : Paired (BondAt (upd H23 e2 (.tup [.int v0.1, .bl false]))) kvl22 bs := pair_keep hp23 (fun y xs e => s24 _ _ e)
            have hlt24 := s24 _ _ hlt23
            have ht24 := s24 _ _ ht23
            generalize upd H23 e2 (.tup [.int v0.1, .bl false]) = H24 at *
            refine ⟨_, rfl, _, rfl, lt, _, rfl, DPut.t (k := kp (srt u v)) hlt24 ht24 len22, ?_⟩
            refine ⟨_, _, a', after bs "snap" u v z, ro', rfl, eax', ?_⟩
            have := L24.put (bond_put (k := srt u v) (v := (v0.1, false)) hp24 (bget_some.mp ⟨_, hb⟩) he2)
            rw [← ea] at this
            exact this
          · obtain ⟨v0, hb⟩ : ∃ v0, bget bs (srt u v) = some v0 := ref_got (by decide) hN
            obtain ⟨tv, hv1, htv⟩ := (bond_get (k := srt u v) hp22).2 v0 hb
            have ea : after bs "mend" u v z = setB bs (srt u v) (v0.1, true) := by unfold after; rw [hb]; show (if _ then _ else _) = _; rw [if_neg (by decide), if_neg (by decide), if_neg (by decide)]
            refine ifF0 (by decide) ⟨_, rfl, rfl, _, rfl, ifT0 (by decide) ?_⟩
            refine ⟨_, rfl, lt, rfl, .inr ⟨_, Rd.of hlt22⟩, _, rfl, _, rfl, (by show 2 ≤ sizeLine; decide), fun e1 ne1 => ?_⟩
            have s23 := same_upd (o := .tup [.int z, .bl true]) ne1
            have he1 := upd_same (H := H22) (a := e1) (o := .tup [.int z, .bl true])
            have L23 := L22.same s23
            have hlt23 := s23 _ _ hlt22
            have ht23 := s23 _ _ ht22
            have hp23 : Paired (BondAt (upd H22 e1 (.tup [.int z, .bl true]))) kvl22 bs := pair_keep hp22 (fun y xs e => s23 _ _ e)
            have htv23 := s23 _ _ htv
            generalize upd H22 e1 (.tup [.int z, .bl true]) = H23 at *
            refine ⟨_, DGet.t (k := kp (srt u v)) hlt23 ht23, ?_⟩
            rw [hv1]
            refine ⟨_, rfl, rfl, _, rfl, ifF0 (by decide) ⟨_, rfl, tv, _, 0, _, rfl, rfl, SqT.of htv23, rfl, ?_⟩⟩
            refine ⟨_, rfl, rfl, _, rfl, ifF0 (by decide) ⟨_, rfl, rfl, (by show 2 ≤ sizeLine; decide), fun e2 ne2 => ?_⟩⟩
            rw [show (!decide (V.str "mend" = V.str "snap")) = true from by decide]
            have s24  := same_upd (o := .tup [.int v0.1, .bl true]) ne2
            have he2 := upd_same (H := H23) (a := e2) (o := .tup [.int v0.1, .bl true])
            have L24 := L23.same s24
            have hp24 : Paired (BondAt (upd H23 e2 (.tup [.int v0.1, .bl true]))) kvl22 bs := pair_keep hp23 (fun y xs e => s24 _ _ e)
            have hlt24 := s24 _ _ hlt23
            have ht24 := s24 _ _ ht23
            generalize upd H23 e2 (.tup [.int v0.1, .bl true]) = H24 at *
            refine ⟨_, rfl, _, rfl, lt, _, rfl, DPut.t (k := kp (srt u v)) hlt24 ht24 len22, ?_⟩
            refine ⟨_, _, a', after bs "mend" u v z, ro', rfl, eax', ?_⟩
            have := L24.put (bond_put (k := srt u v) (v := (v0.1, true)) hp24 (bget_some.mp ⟨_, hb⟩) he2)
            rw [← ea] at this
            exact this
        rintro σ H23 ⟨y13', y14', a', bs', ro', rfl, eax', L23⟩
        obtain ⟨kvl23, hlt23, hp23⟩ := L23.d
        have few23 := L23.web.few
        -- the law's rows
        refine ⟨_, rfl, lt, kvl23, bs'.map (·.1), rfl, Rd.of hlt23, bond_keys hp23, (by rw [List.length_map]; omega), L23.web.small, fun as ys l pm pw pr nl => ?_⟩
        have s24 := same_upd (o := .lst (as.map V.ref)) nl
        have L24 := L23.same s24
        have hl24 := upd_same (H := H23) (a := l) (o := .lst (as.map V.ref))
        have pr24 : Paired (PairAt (upd H23 l (.lst (as.map V.ref)))) as ys := paired_mono (fun b k h => s24 _ _ h) pr
        generalize upd H23 l (.lst (as.map V.ref)) = H24 at *
        refine ⟨l, rfl, ⟨_, SqL.of hl24⟩, fun D nD => ?_⟩
        refine lc_cat (bs := bs') hl24 pr24 (fun k mk => bget_some.mpr (pm.mem_iff.mp mk)) nD (by rw [pm.length_eq, List.length_map]; omega) (fun x => rfl) ?_ ?_
        · intro b k v Hj Q sj hb hv kk
          obtain ⟨kbj, hbj, hpj⟩ := (L24.same sj).d
          obtain ⟨tv, hv1, htv⟩ := (bond_get (k := k) hpj).2 v hv
          exact ⟨_, rfl, _, rfl, _, rfl, lt, .ref tv, rfl, .inr ⟨kbj, kp k, b, .inl hbj, rfl, hb, hv1.symm⟩, b, tv, _, _, rfl, rfl, SqT.of hb, SqT.of htv, (fun z => by cases z), (by show 4 ≤ sizeLine; decide), (fun z => by cases z), fun _ t nt => kk t nt⟩
        intro H25 ts s25 hD hts
        have L25 := L24.same s25
        have W25 : wa.x = a'.x := eax'.symm
        rw [W25]
        -- the web's ties
        refine ⟨_, rfl, a'.x, a'.dx, _, rfl, L25.web.st.me, rfl, a', rs, bs', ro', _, rfl, L25.web, fun p2 H26 ys2 ts2 np2 s26 pm2 pw2 hp2 pr2 => ?_⟩
        have eys : ys2 = ys := below_uniq (pm2.trans pm.symm) pw2 pw (fun k mk => L23.web.small k (pm2.mem_iff.mp mk))
        subst eys
        have hts26 : Paired (RowB H26 bs') ts ys2 := paired_mono (fun u r ⟨w, h1, h2⟩ => ⟨w, h1, s26 _ _ h2⟩) hts
        have lys : ys2.length ≤ 14 := by rw [pm.length_eq, List.length_map]; omega
        refine ⟨_, rfl, _, _, rfl, .inr ⟨p2, D, _, _, rfl, rfl, .inl ⟨hp2, s26 _ _ hD⟩, by rw [List.length_map, List.length_map, paired_len pr2, paired_len hts], by rw [List.length_map, paired_len pr2]; omega, fun i u v hu hv => ?_⟩, fun H27 s27 => ⟨_, rfl, iteF ?_⟩⟩
        · rw [List.getElem?_map] at hu hv
          obtain ⟨t, et, rfl⟩ := Option.map_eq_some_iff.mp hu
          obtain ⟨t', et', rfl⟩ := Option.map_eq_some_iff.mp hv
          obtain ⟨r1, er1, w1, hw1, ht1⟩ := paired_at pr2 i t et
          obtain ⟨r2, er2, w2, hw2, ht2⟩ := paired_at hts26 i t' et'
          rw [er1] at er2
          cases er2
          rw [hw1] at hw2
          cases hw2
          exact eqv_flatL ht1 ht2 (by show 4 ≤ 1000; decide) (fun x hx => by simp only [List.mem_cons, List.not_mem_nil, or_false] at hx; rcases hx with rfl | rfl | rfl | rfl <;> rfl)
        have L27 := (L25.same s26).same s27
        -- a told list spoilt
        refine ⟨_, rfl, a'.x, a'.dx, _, rfl, L27.web.st.me, rfl, a', rs, bs', ro', _, rfl, L27.web, fun p3 H28 ys3 ts3 np3 s28 _ _ hp3 _ => ⟨.inl ⟨rfl, _, SqL.of hp3⟩, p3, _, rfl, rfl, hp3, ?_⟩⟩
        have s29 : Same H27 (upd H28 p3 (.lst [])) := fun y o e => by rw [upd_ne (ne_of_none e np3)]; exact s28 _ _ e
        have L29 := L27.same s29
        generalize upd H28 p3 (.lst []) = H29 at *
        -- repr
        obtain ⟨kvl29, hlt29, hp29⟩ := L29.d
        have lk29 : kvl29.length = bs'.length := paired_len hp29
        have k14 : kvl29.length ≤ 14 := by rw [lk29]; exact few23
        have big : ∀ {k : Nat}, k ≤ 100 → k ≤ sizeLine := fun h => Nat.le_of_lt (small1000 (by omega))
        refine ⟨_, rfl, a'.x, a'.dx, _, rfl, L29.web.st.me, a', rs, bs', ro', _, rfl, L29.web, fun H30 s30 => ⟨_, rfl, rfl, _, rfl, _, rfl, log_small (by omega), _, _, rfl, rfl, ?_, _, _, rfl, rfl, ?_, _, rfl, lt, kvl29, rfl, s30 _ _ hlt29, _, rfl, ?_, _, _, rfl, rfl, ?_, _, _, rfl, rfl, ?_, _, _, rfl, rfl, _, rfl, ?_⟩⟩
        · exact big (lpW_le (n := n) (m := kvl29.length) n8 k14 0)
        · exact big (lpW_le (n := n) (m := kvl29.length) n8 k14 1)
        · exact log_small k14
        · exact big (lpW_le (n := n) (m := kvl29.length) n8 k14 2)
        · exact big (lpW_le (n := n) (m := kvl29.length) n8 k14 3)
        have est : Txt.startswith (reprT rs.length bs'.length) (lpD n kvl29.length) = true := by rw [lrs, ← lk29]; exact starts13 n8 k14
        refine ifF0 (show (!Txt.startswith (reprT rs.length bs'.length) (lpD n kvl29.length)) = false by rw [est]; rfl) ?_
        exact ⟨by omega, ⟨_, _, _, _, _, _, _, _, _, _, _, rfl⟩, a', bs', ro', rfl, L29.same s30⟩
      · rintro σ H13 _
        exact kk H13
end
end K

namespace K
open PySem PySem.Spec PyProof.Rows L2 SwD
def tabOf (K : PySem.W.Frag) (c : Addr) : Option Addr := match K.lookup c with
  | some ⟨_, _, .fields vs, _⟩ => (match (vs[11]? : Option Value) with | some (.ref P) => some P | _ => none)
  | _ => none
theorem kb_of {K : PySem.W.Frag} {x qual : Str} {st : Stmt} {f : Addr} {fd : FuncData} (F : Fun K x qual st f fd) (h : ∀ (kV doc pm : Value) (an : Option Addr) (cdv ct : Value) (u1 u2 u3 w1 : Value), bindArgs (PySem.W.fnOf x qual (defArgs st) (defBody st) (defScope st) .none kV doc pm an cdv ct) ⟨[u1, u2, u3], [("price", w1)]⟩ = pure [(("self" : Str), u1), ("one", u2), ("other", u3), ("price", w1)]) : KBn K fd ["self", "one", "other", "price"] 3 ["price"] (fun us ws => us ++ ws) (fun vs zs => vs ++ zs) := by
  obtain ⟨oc, od, kV, doc, pm, an, cdv, ct, osl, rfl, lk, hcd⟩ := F.ex
  refine ⟨fun s us ws X hu hw => ?_, fun h1 h2 => h1.append h2⟩
  match us, hu, ws, hw with
  | [u1, u2, u3], _, [w1], _ => exact .of_eq (h kV doc pm an cdv ct u1 u2 u3 w1)
theorem kb_build {K : PySem.W.Frag} {f : Addr} {fd : FuncData} (F : Fun K "build" "Web.build" sW_build f fd) : KBn K fd ["self", "one", "other", "price"] 3 ["price"] (fun us ws => us ++ ws) (fun vs zs => vs ++ zs) := kb_of F (fun _ _ _ _ _ _ _ _ _ _ => rfl)
theorem kb_charge {K : PySem.W.Frag} {f : Addr} {fd : FuncData} (F : Fun K "charge" "Web.charge" sW_charge f fd) : KBn K fd ["self", "one", "other", "price"] 3 ["price"] (fun us ws => us ++ ws) (fun vs zs => vs ++ zs) := kb_of F (fun _ _ _ _ _ _ _ _ _ _ => rfl)
theorem b_build {K : PySem.W.Frag} {f DB : Addr} {oc doc pm cdv ct : Value} {od an : Option Addr} {osl : Array (Option Value)} {tk : Tok} (l : K.lookup f = some ⟨oc, od, .func (PySem.W.fnOf "build" "Web.build" (defArgs sW_build) (defBody sW_build) (defScope sW_build) .none (.ref DB) doc pm an cdv ct), osl⟩) (c : PySem.W.codeIn K cdv "Web.build" = true) (k : PySem.W.keepIn K (.ref f) = true) (kw : PySem.W.nsIn K DB "price" = some (some (.int 1 tk))) : ∃ ds, Vals [.int 1] ds ∧ Binds K (PySem.W.fnOf "build" "Web.build" (defArgs sW_build) (defBody sW_build) (defScope sW_build) .none (.ref DB) doc pm an cdv ct) ["self", "one", "other", "price"] ds := by
  have F : FunD K "build" "Web.build" (defArgs sW_build) (defBody sW_build) (defScope sW_build) [] [("price", V.int 1)] f (PySem.W.fnOf "build" "Web.build" (defArgs sW_build) (defBody sW_build) (defScope sW_build) .none (.ref DB) doc pm an cdv ct) :=
    ⟨⟨oc, od, .none, .ref DB, doc, pm, an, cdv, ct, osl, rfl, l, c, .inl ⟨rfl, rfl⟩, .inr ⟨DB, rfl, fun q hq => by rw [List.mem_singleton.mp hq]; exact ⟨_, kw, ⟨_, rfl⟩⟩⟩⟩, k⟩
  exact F.binds0 (ps := ["self", "one", "other", "price"]) 3 (fun z => by cases z) rfl (fun D doc pm an cdv ct us ks hu hk => match us, hu, ks, hk with | [_, _, _], _, [_], _ => ⟨_, _, _, _, _, _, rfl, rfl, rfl⟩)
theorem all_mk {l : PySem.W.OpenLaw} {w : World} {K : PySem.W.Frag} {h : Heap} {mg : Str → Option Value} {fa f0 f1 f2 f3 f4 f5 f6 f7 f8 f9 f10 f11 f12 f13 f14 f15 f16 f17 f18 f19 f20 f21 f22 f23 f24 f25 f26 f27 CS fS TD CTooMany fTooMany NTooMany CNoNumber fNoNumber NNoNumber CNoHouse fNoHouse NNoHouse CNoTie fNoTie NNoTie CHasTie fHasTie NHasTie CBadPrice fBadPrice NBadPrice CBroken fBroken NBroken CWhole fWhole NWhole CNumbers CSlip CHouse CWeb fNumbersinit fNumberstake fSlipinit fHouseinit fHouselive_slip fHouseslip_rows fWebinit fWeblen fWebrepr fWebcheck_houses fWebcheck_tie fWebbuild fWebcut fWebsnap fWebmend fWebcharge fWebties fWebrows fWebtunnels : Addr} (X : K.In h) (G : h.Ns mainGlobals mg) (hfa : mg "law" = some (.ref fa))
    {od0 an0 od1 an1 od2 an2 od3 an3 od4 an4 od5 an5 od6 an6 od7 an7 od8 an8 od9 an9 od10 an10 od11 an11 od12 an12 od13 an13 od14 an14 od15 an15 od16 an16 od17 an17 od18 an18 od19 an19 od20 an20 od21 an21 od22 an22 od23 an23 od24 an24 od25 an25 od26 an26 od27 an27 odS anS odT odTooMany anTooMany ddTooMany odNoNumber anNoNumber ddNoNumber odNoHouse anNoHouse ddNoHouse odNoTie anNoTie ddNoTie odHasTie anHasTie ddHasTie odBadPrice anBadPrice ddBadPrice odBroken anBroken ddBroken odWhole anWhole ddWhole odNumbersinit anNumbersinit odNumberstake anNumberstake odSlipinit anSlipinit odHouseinit anHouseinit odHouselive_slip anHouselive_slip odHouseslip_rows anHouseslip_rows odWebinit anWebinit odWeblen anWeblen odWebrepr anWebrepr odWebcheck_houses anWebcheck_houses odWebcheck_tie anWebcheck_tie odWebbuild anWebbuild odWebcut anWebcut odWebsnap anWebsnap odWebmend anWebmend odWebcharge anWebcharge odWebties anWebties odWebrows anWebrows odWebtunnels anWebtunnels : Option Addr} {sl0 sl1 sl2 sl3 sl4 sl5 sl6 sl7 sl8 sl9 sl10 sl11 sl12 sl13 sl14 sl15 sl16 sl17 sl18 sl19 sl20 sl21 sl22 sl23 sl24 sl25 sl26 sl27 slS slT slTooMany slNoNumber slNoHouse slNoTie slHasTie slBadPrice slBroken slWhole slNumbersinit slNumberstake slSlipinit slHouseinit slHouselive_slip slHouseslip_rows slWebinit slWeblen slWebrepr slWebcheck_houses slWebcheck_tie slWebbuild slWebcut slWebsnap slWebmend slWebcharge slWebties slWebrows slWebtunnels : Array (Option Value)} {oc0 kV0 dc0 pm0 cd0 ct0 oc1 kV1 dc1 pm1 cd1 ct1 oc2 kV2 dc2 pm2 cd2 ct2 oc3 kV3 dc3 pm3 cd3 ct3 oc4 kV4 dc4 pm4 cd4 ct4 oc5 kV5 dc5 pm5 cd5 ct5 oc6 kV6 dc6 pm6 cd6 ct6 oc7 kV7 dc7 pm7 cd7 ct7 oc8 kV8 dc8 pm8 cd8 ct8 oc9 kV9 dc9 pm9 cd9 ct9 oc10 kV10 dc10 pm10 cd10 ct10 oc11 kV11 dc11 pm11 cd11 ct11 oc12 kV12 dc12 pm12 cd12 ct12 oc13 kV13 dc13 pm13 cd13 ct13 oc14 kV14 dc14 pm14 cd14 ct14 oc15 kV15 dc15 pm15 cd15 ct15 oc16 kV16 dc16 pm16 cd16 ct16 oc17 kV17 dc17 pm17 cd17 ct17 oc18 kV18 dc18 pm18 cd18 ct18 oc19 kV19 dc19 pm19 cd19 ct19 oc20 kV20 dc20 pm20 cd20 ct20 oc21 kV21 dc21 pm21 cd21 ct21 oc22 kV22 dc22 pm22 cd22 ct22 oc23 kV23 dc23 pm23 cd23 ct23 oc24 kV24 dc24 pm24 cd24 ct24 oc25 kV25 dc25 pm25 cd25 ct25 oc26 kV26 dc26 pm26 ct26 oc27 kV27 dc27 pm27 ct27 ocS kVS dcS pmS cdS ctS ocT ocTooMany kVTooMany dcTooMany pmTooMany cdTooMany ctTooMany ocNoNumber kVNoNumber dcNoNumber pmNoNumber cdNoNumber ctNoNumber ocNoHouse kVNoHouse dcNoHouse pmNoHouse cdNoHouse ctNoHouse ocNoTie kVNoTie dcNoTie pmNoTie cdNoTie ctNoTie ocHasTie kVHasTie dcHasTie pmHasTie cdHasTie ctHasTie ocBadPrice kVBadPrice dcBadPrice pmBadPrice cdBadPrice ctBadPrice ocBroken kVBroken dcBroken pmBroken cdBroken ctBroken ocWhole kVWhole dcWhole pmWhole cdWhole ctWhole ocNumbersinit kVNumbersinit dcNumbersinit pmNumbersinit cdNumbersinit ctNumbersinit ocNumberstake kVNumberstake dcNumberstake pmNumberstake cdNumberstake ctNumberstake ocSlipinit kVSlipinit dcSlipinit pmSlipinit cdSlipinit ctSlipinit ocHouseinit kVHouseinit dcHouseinit pmHouseinit cdHouseinit ctHouseinit ocHouselive_slip kVHouselive_slip dcHouselive_slip pmHouselive_slip cdHouselive_slip ctHouselive_slip ocHouseslip_rows kVHouseslip_rows dcHouseslip_rows pmHouseslip_rows cdHouseslip_rows ctHouseslip_rows ocWebinit kVWebinit dcWebinit pmWebinit cdWebinit ctWebinit ocWeblen kVWeblen dcWeblen pmWeblen cdWeblen ctWeblen ocWebrepr kVWebrepr dcWebrepr pmWebrepr cdWebrepr ctWebrepr ocWebcheck_houses kVWebcheck_houses dcWebcheck_houses pmWebcheck_houses cdWebcheck_houses ctWebcheck_houses ocWebcheck_tie kVWebcheck_tie dcWebcheck_tie pmWebcheck_tie cdWebcheck_tie ctWebcheck_tie ocWebbuild dcWebbuild pmWebbuild cdWebbuild ctWebbuild ocWebcut kVWebcut dcWebcut pmWebcut cdWebcut ctWebcut ocWebsnap kVWebsnap dcWebsnap pmWebsnap cdWebsnap ctWebsnap ocWebmend kVWebmend dcWebmend pmWebmend cdWebmend ctWebmend ocWebcharge kVWebcharge dcWebcharge pmWebcharge cdWebcharge ctWebcharge ocWebties kVWebties dcWebties pmWebties cdWebties ctWebties ocWebrows kVWebrows dcWebrows pmWebrows cdWebrows ctWebrows ocWebtunnels kVWebtunnels dcWebtunnels pmWebtunnels cdWebtunnels ctWebtunnels : Value} {tk1 tk2 tkMOST_HOUSES tkMOST_TIES tkMOST_PRICE tkMOST_ABOVE tkMOST_NUMBER : Tok} {nT : Nat} {CNoTunnel CShort CLone cT PT cU PU DB : Addr} {tkB : Tok}
    {nmTooMany qnTooMany nmNoNumber qnNoNumber nmNoHouse qnNoHouse nmNoTie qnNoTie nmHasTie qnHasTie nmBadPrice qnBadPrice nmBroken qnBroken nmWhole qnWhole : Str} {bsTooMany bmTooMany subTooMany bsNoNumber bmNoNumber subNoNumber bsNoHouse bmNoHouse subNoHouse bsNoTie bmNoTie subNoTie bsHasTie bmHasTie subHasTie bsBadPrice bmBadPrice subBadPrice bsBroken bmBroken subBroken bsWhole bmWhole subWhole : List Value} {snTooMany snNoNumber snNoHouse snNoTie snHasTie snBadPrice snBroken snWhole : List Str} {abTooMany abNoNumber abNoHouse abNoTie abHasTie abBadPrice abBroken abWhole : Bool} {colTooMany colNoNumber colNoHouse colNoTie colHasTie colBadPrice colBroken colWhole : Option Bool} {p0TooMany p1TooMany p2TooMany p3TooMany p5TooMany p0NoNumber p1NoNumber p2NoNumber p3NoNumber p5NoNumber p0NoHouse p1NoHouse p2NoHouse p3NoHouse p5NoHouse p0NoTie p1NoTie p2NoTie p3NoTie p5NoTie p0HasTie p1HasTie p2HasTie p3HasTie p5HasTie p0BadPrice p1BadPrice p2BadPrice p3BadPrice p5BadPrice p0Broken p1Broken p2Broken p3Broken p5Broken p0Whole p1Whole p2Whole p3Whole p5Whole : Option Value}
    (a0 : PySem.W.nsIn K mainGlobals "_law_box" = some (some (.ref f0)))
    (l0 : K.lookup f0 = some ⟨oc0, od0, .func (PySem.W.fnOf "_law_box" "_law_box" (defArgs sBox) (defBody sBox) (defScope sBox) .none kV0 dc0 pm0 an0 cd0 ct0), sl0⟩)
    (c0 : PySem.W.codeIn K cd0 "_law_box" = true)
    (k0 : PySem.W.keepIn K (.ref f0) = true)
    (a1 : PySem.W.nsIn K mainGlobals "_law_take" = some (some (.ref f1)))
    (l1 : K.lookup f1 = some ⟨oc1, od1, .func (PySem.W.fnOf "_law_take" "_law_take" (defArgs sTake) (defBody sTake) (defScope sTake) .none kV1 dc1 pm1 an1 cd1 ct1), sl1⟩)
    (c1 : PySem.W.codeIn K cd1 "_law_take" = true)
    (k1 : PySem.W.keepIn K (.ref f1) = true)
    (a2 : PySem.W.nsIn K mainGlobals "_law_same" = some (some (.ref f2)))
    (l2 : K.lookup f2 = some ⟨oc2, od2, .func (PySem.W.fnOf "_law_same" "_law_same" (defArgs sSame) (defBody sSame) (defScope sSame) .none kV2 dc2 pm2 an2 cd2 ct2), sl2⟩)
    (c2 : PySem.W.codeIn K cd2 "_law_same" = true)
    (k2 : PySem.W.keepIn K (.ref f2) = true)
    (a3 : PySem.W.nsIn K mainGlobals "_law_why" = some (some (.ref f3)))
    (l3 : K.lookup f3 = some ⟨oc3, od3, .func (PySem.W.fnOf "_law_why" "_law_why" (defArgs sWhy) (defBody sWhy) (defScope sWhy) .none kV3 dc3 pm3 an3 cd3 ct3), sl3⟩)
    (c3 : PySem.W.codeIn K cd3 "_law_why" = true)
    (k3 : PySem.W.keepIn K (.ref f3) = true)
    (a4 : PySem.W.nsIn K mainGlobals "_law_of" = some (some (.ref f4)))
    (l4 : K.lookup f4 = some ⟨oc4, od4, .func (PySem.W.fnOf "_law_of" "_law_of" (defArgs sOf) (defBody sOf) (defScope sOf) .none kV4 dc4 pm4 an4 cd4 ct4), sl4⟩)
    (c4 : PySem.W.codeIn K cd4 "_law_of" = true)
    (k4 : PySem.W.keepIn K (.ref f4) = true)
    (a5 : PySem.W.nsIn K mainGlobals "_law_wild" = some (some (.ref f5)))
    (l5 : K.lookup f5 = some ⟨oc5, od5, .func (PySem.W.fnOf "_law_wild" "_law_wild" (defArgs sWild) (defBody sWild) (defScope sWild) .none kV5 dc5 pm5 an5 cd5 ct5), sl5⟩)
    (c5 : PySem.W.codeIn K cd5 "_law_wild" = true)
    (k5 : PySem.W.keepIn K (.ref f5) = true)
    (a6 : PySem.W.nsIn K mainGlobals "_law_pairs" = some (some (.ref f6)))
    (l6 : K.lookup f6 = some ⟨oc6, od6, .func (PySem.W.fnOf "_law_pairs" "_law_pairs" (defArgs sPairs) (defBody sPairs) (defScope sPairs) .none kV6 dc6 pm6 an6 cd6 ct6), sl6⟩)
    (c6 : PySem.W.codeIn K cd6 "_law_pairs" = true)
    (k6 : PySem.W.keepIn K (.ref f6) = true)
    (a7 : PySem.W.nsIn K mainGlobals "_law_shuffled" = some (some (.ref f7)))
    (l7 : K.lookup f7 = some ⟨oc7, od7, .func (PySem.W.fnOf "_law_shuffled" "_law_shuffled" (defArgs sShuf) (defBody sShuf) (defScope sShuf) .none kV7 dc7 pm7 an7 cd7 ct7), sl7⟩)
    (c7 : PySem.W.codeIn K cd7 "_law_shuffled" = true)
    (k7 : PySem.W.keepIn K (.ref f7) = true)
    (a8 : PySem.W.nsIn K mainGlobals "_law_ranges" = some (some (.ref f8)))
    (l8 : K.lookup f8 = some ⟨oc8, od8, .func (PySem.W.fnOf "_law_ranges" "_law_ranges" (defArgs sRangesL) (defBody sRangesL) (defScope sRangesL) .none kV8 dc8 pm8 an8 cd8 ct8), sl8⟩)
    (c8 : PySem.W.codeIn K cd8 "_law_ranges" = true)
    (k8 : PySem.W.keepIn K (.ref f8) = true)
    (a9 : PySem.W.nsIn K mainGlobals "_law_tie_deed" = some (some (.ref f9)))
    (l9 : K.lookup f9 = some ⟨oc9, od9, .func (PySem.W.fnOf "_law_tie_deed" "_law_tie_deed" (defArgs sDeed) (defBody sDeed) (defScope sDeed) .none kV9 dc9 pm9 an9 cd9 ct9), sl9⟩)
    (c9 : PySem.W.codeIn K cd9 "_law_tie_deed" = true)
    (k9 : PySem.W.keepIn K (.ref f9) = true)
    (a10 : PySem.W.nsIn K mainGlobals "_law_refused" = some (some (.ref f10)))
    (l10 : K.lookup f10 = some ⟨oc10, od10, .func (PySem.W.fnOf "_law_refused" "_law_refused" (defArgs sRefused) (defBody sRefused) (defScope sRefused) .none kV10 dc10 pm10 an10 cd10 ct10), sl10⟩)
    (c10 : PySem.W.codeIn K cd10 "_law_refused" = true)
    (k10 : PySem.W.keepIn K (.ref f10) = true)
    (a11 : PySem.W.nsIn K mainGlobals "_law_acted" = some (some (.ref f11)))
    (l11 : K.lookup f11 = some ⟨oc11, od11, .func (PySem.W.fnOf "_law_acted" "_law_acted" (defArgs sActed) (defBody sActed) (defScope sActed) .none kV11 dc11 pm11 an11 cd11 ct11), sl11⟩)
    (c11 : PySem.W.codeIn K cd11 "_law_acted" = true)
    (k11 : PySem.W.keepIn K (.ref f11) = true)
    (a12 : PySem.W.nsIn K mainGlobals "is_range" = some (some (.ref f12)))
    (l12 : K.lookup f12 = some ⟨oc12, od12, .func (PySem.W.fnOf "is_range" "is_range" (defArgs sIsRange) (defBody sIsRange) (defScope sIsRange) .none kV12 dc12 pm12 an12 cd12 ct12), sl12⟩)
    (c12 : PySem.W.codeIn K cd12 "is_range" = true)
    (k12 : PySem.W.keepIn K (.ref f12) = true)
    (a13 : PySem.W.nsIn K mainGlobals "make_slip" = some (some (.ref f13)))
    (l13 : K.lookup f13 = some ⟨oc13, od13, .func (PySem.W.fnOf "make_slip" "make_slip" (defArgs sMakeSlip) (defBody sMakeSlip) (defScope sMakeSlip) .none kV13 dc13 pm13 an13 cd13 ct13), sl13⟩)
    (c13 : PySem.W.codeIn K cd13 "make_slip" = true)
    (k13 : PySem.W.keepIn K (.ref f13) = true)
    (a14 : PySem.W.nsIn K mainGlobals "check_house" = some (some (.ref f14)))
    (l14 : K.lookup f14 = some ⟨oc14, od14, .func (PySem.W.fnOf "check_house" "check_house" (defArgs sCheck) (defBody sCheck) (defScope sCheck) .none kV14 dc14 pm14 an14 cd14 ct14), sl14⟩)
    (c14 : PySem.W.codeIn K cd14 "check_house" = true)
    (k14 : PySem.W.keepIn K (.ref f14) = true)
    (a15 : PySem.W.nsIn K mainGlobals "sorted_pair" = some (some (.ref f15)))
    (l15 : K.lookup f15 = some ⟨oc15, od15, .func (PySem.W.fnOf "sorted_pair" "sorted_pair" (defArgs sPair2) (defBody sPair2) (defScope sPair2) .none kV15 dc15 pm15 an15 cd15 ct15), sl15⟩)
    (c15 : PySem.W.codeIn K cd15 "sorted_pair" = true)
    (k15 : PySem.W.keepIn K (.ref f15) = true)
    (a16 : PySem.W.nsIn K mainGlobals "check_price" = some (some (.ref f16)))
    (l16 : K.lookup f16 = some ⟨oc16, od16, .func (PySem.W.fnOf "check_price" "check_price" (defArgs sPrice) (defBody sPrice) (defScope sPrice) .none kV16 dc16 pm16 an16 cd16 ct16), sl16⟩)
    (c16 : PySem.W.codeIn K cd16 "check_price" = true)
    (k16 : PySem.W.keepIn K (.ref f16) = true)
    (a17 : PySem.W.nsIn K mainGlobals "put_letter" = some (some (.ref f17)))
    (l17 : K.lookup f17 = some ⟨oc17, od17, .func (PySem.W.fnOf "put_letter" "put_letter" (defArgs sPutL) (defBody sPutL) (defScope sPutL) .none kV17 dc17 pm17 an17 cd17 ct17), sl17⟩)
    (c17 : PySem.W.codeIn K cd17 "put_letter" = true)
    (k17 : PySem.W.keepIn K (.ref f17) = true)
    (a18 : PySem.W.nsIn K mainGlobals "tell_slips" = some (some (.ref f18)))
    (l18 : K.lookup f18 = some ⟨oc18, od18, .func (PySem.W.fnOf "tell_slips" "tell_slips" (defArgs sTellS) (defBody sTellS) (defScope sTellS) .none kV18 dc18 pm18 an18 cd18 ct18), sl18⟩)
    (c18 : PySem.W.codeIn K cd18 "tell_slips" = true)
    (k18 : PySem.W.keepIn K (.ref f18) = true)
    (a19 : PySem.W.nsIn K mainGlobals "let_go" = some (some (.ref f19)))
    (l19 : K.lookup f19 = some ⟨oc19, od19, .func (PySem.W.fnOf "let_go" "let_go" (defArgs sLetGo) (defBody sLetGo) (defScope sLetGo) .none kV19 dc19 pm19 an19 cd19 ct19), sl19⟩)
    (c19 : PySem.W.codeIn K cd19 "let_go" = true)
    (k19 : PySem.W.keepIn K (.ref f19) = true)
    (a20 : PySem.W.nsIn K mainGlobals "lose_holder" = some (some (.ref f20)))
    (l20 : K.lookup f20 = some ⟨oc20, od20, .func (PySem.W.fnOf "lose_holder" "lose_holder" (defArgs sLoseH) (defBody sLoseH) (defScope sLoseH) .none kV20 dc20 pm20 an20 cd20 ct20), sl20⟩)
    (c20 : PySem.W.codeIn K cd20 "lose_holder" = true)
    (k20 : PySem.W.keepIn K (.ref f20) = true)
    (a21 : PySem.W.nsIn K mainGlobals "drop_tunnels" = some (some (.ref f21)))
    (l21 : K.lookup f21 = some ⟨oc21, od21, .func (PySem.W.fnOf "drop_tunnels" "drop_tunnels" (defArgs sDropT) (defBody sDropT) (defScope sDropT) .none kV21 dc21 pm21 an21 cd21 ct21), sl21⟩)
    (c21 : PySem.W.codeIn K cd21 "drop_tunnels" = true)
    (k21 : PySem.W.keepIn K (.ref f21) = true)
    (a22 : PySem.W.nsIn K mainGlobals "drop_towards" = some (some (.ref f22)))
    (l22 : K.lookup f22 = some ⟨oc22, od22, .func (PySem.W.fnOf "drop_towards" "drop_towards" (defArgs sDropW) (defBody sDropW) (defScope sDropW) .none kV22 dc22 pm22 an22 cd22 ct22), sl22⟩)
    (c22 : PySem.W.codeIn K cd22 "drop_towards" = true)
    (k22 : PySem.W.keepIn K (.ref f22) = true)
    (a23 : PySem.W.nsIn K mainGlobals "try_goal" = some (some (.ref f23)))
    (l23 : K.lookup f23 = some ⟨oc23, od23, .func (PySem.W.fnOf "try_goal" "try_goal" (defArgs sTryG) (defBody sTryG) (defScope sTryG) .none kV23 dc23 pm23 an23 cd23 ct23), sl23⟩)
    (c23 : PySem.W.codeIn K cd23 "try_goal" = true)
    (k23 : PySem.W.keepIn K (.ref f23) = true)
    (a24 : PySem.W.nsIn K mainGlobals "try_all" = some (some (.ref f24)))
    (l24 : K.lookup f24 = some ⟨oc24, od24, .func (PySem.W.fnOf "try_all" "try_all" (defArgs sTryA) (defBody sTryA) (defScope sTryA) .none kV24 dc24 pm24 an24 cd24 ct24), sl24⟩)
    (c24 : PySem.W.codeIn K cd24 "try_all" = true)
    (k24 : PySem.W.keepIn K (.ref f24) = true)
    (a25 : PySem.W.nsIn K mainGlobals "go_on" = some (some (.ref f25)))
    (l25 : K.lookup f25 = some ⟨oc25, od25, .func (PySem.W.fnOf "go_on" "go_on" (defArgs sGoOn) (defBody sGoOn) (defScope sGoOn) .none kV25 dc25 pm25 an25 cd25 ct25), sl25⟩)
    (c25 : PySem.W.codeIn K cd25 "go_on" = true)
    (k25 : PySem.W.keepIn K (.ref f25) = true)
    (a26 : PySem.W.nsIn K mainGlobals "lose_house" = some (some (.ref f26)))
    (l26 : K.lookup f26 = some ⟨oc26, od26, .func (PySem.W.fnOf "lose_house" "lose_house" (defArgs sLoseHouse) (defBody sLoseHouse) (defScope sLoseHouse) .none kV26 dc26 pm26 an26 (.ref cU) ct26), sl26⟩)
    (c26 : PySem.W.codeIn K (.ref cU) "lose_house" = true)
    (k26 : PySem.W.keepIn K (.ref f26) = true)
    (a27 : PySem.W.nsIn K mainGlobals "law" = some (some (.ref f27)))
    (l27 : K.lookup f27 = some ⟨oc27, od27, .func (PySem.W.fnOf "law" "law" (defArgs sLaw) (defBody sLaw) (defScope sLaw) .none kV27 dc27 pm27 an27 (.ref cT) ct27), sl27⟩)
    (c27 : PySem.W.codeIn K (.ref cT) "law" = true)
    (k27 : PySem.W.keepIn K (.ref f27) = true)
    (aS : PySem.W.nsIn K mainGlobals "SlipError" = some (some (.ref CS)))
    (rd : PySem.W.readsIn K CS (.type "type") = true)
    (rga : PySem.W.specialIn K (.ref CS) "__getattribute__" = some (some (.builtin "type.__getattribute__")))
    (atS : PySem.W.findCls K (.ref CS) (.type "type") "__init__" = some (.val (.ref fS)))
    (lS : K.lookup fS = some ⟨ocS, odS, .func (PySem.W.fnOf "__init__" "SlipError.__init__" (defArgs sSlipI) (defBody sSlipI) (defScope sSlipI) (.ref TD) kVS dcS pmS anS cdS ctS), slS⟩)
    (lT : K.lookup TD = some ⟨ocT, odT, .seq #[.str "sliperror" tk1, .str "refused" tk2] nT, slT⟩)
    (cS : PySem.W.codeIn K cdS "SlipError.__init__" = true)
    (kS : PySem.W.keepIn K (.ref fS) = true)
    (vV : PySem.W.findCls K (.type "ValueError") (.type "type") "__init__" = some (.val (.builtin "ValueError.__init__")))
    (zV : PySem.W.nsIn K mainGlobals "ValueError" = some none)
    (aTooMany : PySem.W.nsIn K mainGlobals "TooMany" = some (some (.ref CTooMany)))
    (xTooMany : K.lookup CTooMany = some (excClassObj nmTooMany qnTooMany CTooMany NTooMany bsTooMany bmTooMany true snTooMany subTooMany abTooMany colTooMany ddTooMany p0TooMany p1TooMany p2TooMany p3TooMany p5TooMany "ValueError.__new__"))
    (rTooMany : PySem.HandSPX.refsVE bmTooMany = true)
    (saTooMany : PySem.W.findIn K (.ref CTooMany) "__setattr__" = some (some (.builtin "object.__setattr__")))
    (exTooMany : PySem.W.subIn K (.ref CTooMany) (.type "BaseException") = some true)
    (tyTooMany : PySem.W.typeIn K (.ref CTooMany) = some (.type "type"))
    (kcTooMany : PySem.W.keepIn K (.ref CTooMany) = true)
    (gaTooMany : PySem.W.findIn K (.ref CTooMany) "__getattribute__" = some (some (.builtin "BaseException.__getattribute__")))
    (ggTooMany : PySem.W.findIn K (.ref CTooMany) "__getattr__" = some none)
    (hdTooMany : PySem.W.hasDictIn K CTooMany = true)
    (iTooMany : PySem.W.findIn K (.ref CTooMany) "__init__" = some (some (.ref fTooMany)))
    (tiTooMany : PySem.W.typeIn K (.ref fTooMany) = some (.type "function"))
    (lTooMany : K.lookup fTooMany = some ⟨ocTooMany, odTooMany, .func (PySem.W.fnOf "__init__" "TooMany.__init__" (defArgs sTooManyI) (defBody sTooManyI) (defScope sTooManyI) .none kVTooMany dcTooMany pmTooMany anTooMany cdTooMany ctTooMany), slTooMany⟩)
    (cTooMany : PySem.W.codeIn K cdTooMany "TooMany.__init__" = true)
    (kfTooMany : PySem.W.keepIn K (.ref fTooMany) = true)
    (wTooMany : PySem.W.findIn K (.ref CTooMany) "word" = some none)
    (flTooManybound : PySem.W.findIn K (.ref CTooMany) "bound" = some none)
    (icTooMany : PySem.W.isClsIn K CTooMany = true)
    (aNoNumber : PySem.W.nsIn K mainGlobals "NoNumber" = some (some (.ref CNoNumber)))
    (xNoNumber : K.lookup CNoNumber = some (excClassObj nmNoNumber qnNoNumber CNoNumber NNoNumber bsNoNumber bmNoNumber true snNoNumber subNoNumber abNoNumber colNoNumber ddNoNumber p0NoNumber p1NoNumber p2NoNumber p3NoNumber p5NoNumber "ValueError.__new__"))
    (rNoNumber : PySem.HandSPX.refsVE bmNoNumber = true)
    (saNoNumber : PySem.W.findIn K (.ref CNoNumber) "__setattr__" = some (some (.builtin "object.__setattr__")))
    (exNoNumber : PySem.W.subIn K (.ref CNoNumber) (.type "BaseException") = some true)
    (tyNoNumber : PySem.W.typeIn K (.ref CNoNumber) = some (.type "type"))
    (kcNoNumber : PySem.W.keepIn K (.ref CNoNumber) = true)
    (gaNoNumber : PySem.W.findIn K (.ref CNoNumber) "__getattribute__" = some (some (.builtin "BaseException.__getattribute__")))
    (ggNoNumber : PySem.W.findIn K (.ref CNoNumber) "__getattr__" = some none)
    (hdNoNumber : PySem.W.hasDictIn K CNoNumber = true)
    (iNoNumber : PySem.W.findIn K (.ref CNoNumber) "__init__" = some (some (.ref fNoNumber)))
    (tiNoNumber : PySem.W.typeIn K (.ref fNoNumber) = some (.type "function"))
    (lNoNumber : K.lookup fNoNumber = some ⟨ocNoNumber, odNoNumber, .func (PySem.W.fnOf "__init__" "NoNumber.__init__" (defArgs sNoNumberI) (defBody sNoNumberI) (defScope sNoNumberI) .none kVNoNumber dcNoNumber pmNoNumber anNoNumber cdNoNumber ctNoNumber), slNoNumber⟩)
    (cNoNumber : PySem.W.codeIn K cdNoNumber "NoNumber.__init__" = true)
    (kfNoNumber : PySem.W.keepIn K (.ref fNoNumber) = true)
    (wNoNumber : PySem.W.findIn K (.ref CNoNumber) "word" = some none)
    (icNoNumber : PySem.W.isClsIn K CNoNumber = true)
    (aNoHouse : PySem.W.nsIn K mainGlobals "NoHouse" = some (some (.ref CNoHouse)))
    (xNoHouse : K.lookup CNoHouse = some (excClassObj nmNoHouse qnNoHouse CNoHouse NNoHouse bsNoHouse bmNoHouse true snNoHouse subNoHouse abNoHouse colNoHouse ddNoHouse p0NoHouse p1NoHouse p2NoHouse p3NoHouse p5NoHouse "ValueError.__new__"))
    (rNoHouse : PySem.HandSPX.refsVE bmNoHouse = true)
    (saNoHouse : PySem.W.findIn K (.ref CNoHouse) "__setattr__" = some (some (.builtin "object.__setattr__")))
    (exNoHouse : PySem.W.subIn K (.ref CNoHouse) (.type "BaseException") = some true)
    (tyNoHouse : PySem.W.typeIn K (.ref CNoHouse) = some (.type "type"))
    (kcNoHouse : PySem.W.keepIn K (.ref CNoHouse) = true)
    (gaNoHouse : PySem.W.findIn K (.ref CNoHouse) "__getattribute__" = some (some (.builtin "BaseException.__getattribute__")))
    (ggNoHouse : PySem.W.findIn K (.ref CNoHouse) "__getattr__" = some none)
    (hdNoHouse : PySem.W.hasDictIn K CNoHouse = true)
    (iNoHouse : PySem.W.findIn K (.ref CNoHouse) "__init__" = some (some (.ref fNoHouse)))
    (tiNoHouse : PySem.W.typeIn K (.ref fNoHouse) = some (.type "function"))
    (lNoHouse : K.lookup fNoHouse = some ⟨ocNoHouse, odNoHouse, .func (PySem.W.fnOf "__init__" "NoHouse.__init__" (defArgs sNoHouseI) (defBody sNoHouseI) (defScope sNoHouseI) .none kVNoHouse dcNoHouse pmNoHouse anNoHouse cdNoHouse ctNoHouse), slNoHouse⟩)
    (cNoHouse : PySem.W.codeIn K cdNoHouse "NoHouse.__init__" = true)
    (kfNoHouse : PySem.W.keepIn K (.ref fNoHouse) = true)
    (wNoHouse : PySem.W.findIn K (.ref CNoHouse) "word" = some none)
    (flNoHousehouse : PySem.W.findIn K (.ref CNoHouse) "house" = some none)
    (icNoHouse : PySem.W.isClsIn K CNoHouse = true)
    (aNoTie : PySem.W.nsIn K mainGlobals "NoTie" = some (some (.ref CNoTie)))
    (xNoTie : K.lookup CNoTie = some (excClassObj nmNoTie qnNoTie CNoTie NNoTie bsNoTie bmNoTie true snNoTie subNoTie abNoTie colNoTie ddNoTie p0NoTie p1NoTie p2NoTie p3NoTie p5NoTie "ValueError.__new__"))
    (rNoTie : PySem.HandSPX.refsVE bmNoTie = true)
    (saNoTie : PySem.W.findIn K (.ref CNoTie) "__setattr__" = some (some (.builtin "object.__setattr__")))
    (exNoTie : PySem.W.subIn K (.ref CNoTie) (.type "BaseException") = some true)
    (tyNoTie : PySem.W.typeIn K (.ref CNoTie) = some (.type "type"))
    (kcNoTie : PySem.W.keepIn K (.ref CNoTie) = true)
    (gaNoTie : PySem.W.findIn K (.ref CNoTie) "__getattribute__" = some (some (.builtin "BaseException.__getattribute__")))
    (ggNoTie : PySem.W.findIn K (.ref CNoTie) "__getattr__" = some none)
    (hdNoTie : PySem.W.hasDictIn K CNoTie = true)
    (iNoTie : PySem.W.findIn K (.ref CNoTie) "__init__" = some (some (.ref fNoTie)))
    (tiNoTie : PySem.W.typeIn K (.ref fNoTie) = some (.type "function"))
    (lNoTie : K.lookup fNoTie = some ⟨ocNoTie, odNoTie, .func (PySem.W.fnOf "__init__" "NoTie.__init__" (defArgs sNoTieI) (defBody sNoTieI) (defScope sNoTieI) .none kVNoTie dcNoTie pmNoTie anNoTie cdNoTie ctNoTie), slNoTie⟩)
    (cNoTie : PySem.W.codeIn K cdNoTie "NoTie.__init__" = true)
    (kfNoTie : PySem.W.keepIn K (.ref fNoTie) = true)
    (wNoTie : PySem.W.findIn K (.ref CNoTie) "word" = some none)
    (flNoTieone : PySem.W.findIn K (.ref CNoTie) "one" = some none)
    (flNoTieother : PySem.W.findIn K (.ref CNoTie) "other" = some none)
    (icNoTie : PySem.W.isClsIn K CNoTie = true)
    (aHasTie : PySem.W.nsIn K mainGlobals "HasTie" = some (some (.ref CHasTie)))
    (xHasTie : K.lookup CHasTie = some (excClassObj nmHasTie qnHasTie CHasTie NHasTie bsHasTie bmHasTie true snHasTie subHasTie abHasTie colHasTie ddHasTie p0HasTie p1HasTie p2HasTie p3HasTie p5HasTie "ValueError.__new__"))
    (rHasTie : PySem.HandSPX.refsVE bmHasTie = true)
    (saHasTie : PySem.W.findIn K (.ref CHasTie) "__setattr__" = some (some (.builtin "object.__setattr__")))
    (exHasTie : PySem.W.subIn K (.ref CHasTie) (.type "BaseException") = some true)
    (tyHasTie : PySem.W.typeIn K (.ref CHasTie) = some (.type "type"))
    (kcHasTie : PySem.W.keepIn K (.ref CHasTie) = true)
    (gaHasTie : PySem.W.findIn K (.ref CHasTie) "__getattribute__" = some (some (.builtin "BaseException.__getattribute__")))
    (ggHasTie : PySem.W.findIn K (.ref CHasTie) "__getattr__" = some none)
    (hdHasTie : PySem.W.hasDictIn K CHasTie = true)
    (iHasTie : PySem.W.findIn K (.ref CHasTie) "__init__" = some (some (.ref fHasTie)))
    (tiHasTie : PySem.W.typeIn K (.ref fHasTie) = some (.type "function"))
    (lHasTie : K.lookup fHasTie = some ⟨ocHasTie, odHasTie, .func (PySem.W.fnOf "__init__" "HasTie.__init__" (defArgs sHasTieI) (defBody sHasTieI) (defScope sHasTieI) .none kVHasTie dcHasTie pmHasTie anHasTie cdHasTie ctHasTie), slHasTie⟩)
    (cHasTie : PySem.W.codeIn K cdHasTie "HasTie.__init__" = true)
    (kfHasTie : PySem.W.keepIn K (.ref fHasTie) = true)
    (wHasTie : PySem.W.findIn K (.ref CHasTie) "word" = some none)
    (icHasTie : PySem.W.isClsIn K CHasTie = true)
    (aBadPrice : PySem.W.nsIn K mainGlobals "BadPrice" = some (some (.ref CBadPrice)))
    (xBadPrice : K.lookup CBadPrice = some (excClassObj nmBadPrice qnBadPrice CBadPrice NBadPrice bsBadPrice bmBadPrice true snBadPrice subBadPrice abBadPrice colBadPrice ddBadPrice p0BadPrice p1BadPrice p2BadPrice p3BadPrice p5BadPrice "ValueError.__new__"))
    (rBadPrice : PySem.HandSPX.refsVE bmBadPrice = true)
    (saBadPrice : PySem.W.findIn K (.ref CBadPrice) "__setattr__" = some (some (.builtin "object.__setattr__")))
    (exBadPrice : PySem.W.subIn K (.ref CBadPrice) (.type "BaseException") = some true)
    (tyBadPrice : PySem.W.typeIn K (.ref CBadPrice) = some (.type "type"))
    (kcBadPrice : PySem.W.keepIn K (.ref CBadPrice) = true)
    (gaBadPrice : PySem.W.findIn K (.ref CBadPrice) "__getattribute__" = some (some (.builtin "BaseException.__getattribute__")))
    (ggBadPrice : PySem.W.findIn K (.ref CBadPrice) "__getattr__" = some none)
    (hdBadPrice : PySem.W.hasDictIn K CBadPrice = true)
    (iBadPrice : PySem.W.findIn K (.ref CBadPrice) "__init__" = some (some (.ref fBadPrice)))
    (tiBadPrice : PySem.W.typeIn K (.ref fBadPrice) = some (.type "function"))
    (lBadPrice : K.lookup fBadPrice = some ⟨ocBadPrice, odBadPrice, .func (PySem.W.fnOf "__init__" "BadPrice.__init__" (defArgs sBadPriceI) (defBody sBadPriceI) (defScope sBadPriceI) .none kVBadPrice dcBadPrice pmBadPrice anBadPrice cdBadPrice ctBadPrice), slBadPrice⟩)
    (cBadPrice : PySem.W.codeIn K cdBadPrice "BadPrice.__init__" = true)
    (kfBadPrice : PySem.W.keepIn K (.ref fBadPrice) = true)
    (wBadPrice : PySem.W.findIn K (.ref CBadPrice) "word" = some none)
    (icBadPrice : PySem.W.isClsIn K CBadPrice = true)
    (aBroken : PySem.W.nsIn K mainGlobals "Broken" = some (some (.ref CBroken)))
    (xBroken : K.lookup CBroken = some (excClassObj nmBroken qnBroken CBroken NBroken bsBroken bmBroken true snBroken subBroken abBroken colBroken ddBroken p0Broken p1Broken p2Broken p3Broken p5Broken "ValueError.__new__"))
    (rBroken : PySem.HandSPX.refsVE bmBroken = true)
    (saBroken : PySem.W.findIn K (.ref CBroken) "__setattr__" = some (some (.builtin "object.__setattr__")))
    (exBroken : PySem.W.subIn K (.ref CBroken) (.type "BaseException") = some true)
    (tyBroken : PySem.W.typeIn K (.ref CBroken) = some (.type "type"))
    (kcBroken : PySem.W.keepIn K (.ref CBroken) = true)
    (gaBroken : PySem.W.findIn K (.ref CBroken) "__getattribute__" = some (some (.builtin "BaseException.__getattribute__")))
    (ggBroken : PySem.W.findIn K (.ref CBroken) "__getattr__" = some none)
    (hdBroken : PySem.W.hasDictIn K CBroken = true)
    (iBroken : PySem.W.findIn K (.ref CBroken) "__init__" = some (some (.ref fBroken)))
    (tiBroken : PySem.W.typeIn K (.ref fBroken) = some (.type "function"))
    (lBroken : K.lookup fBroken = some ⟨ocBroken, odBroken, .func (PySem.W.fnOf "__init__" "Broken.__init__" (defArgs sBrokenI) (defBody sBrokenI) (defScope sBrokenI) .none kVBroken dcBroken pmBroken anBroken cdBroken ctBroken), slBroken⟩)
    (cBroken : PySem.W.codeIn K cdBroken "Broken.__init__" = true)
    (kfBroken : PySem.W.keepIn K (.ref fBroken) = true)
    (wBroken : PySem.W.findIn K (.ref CBroken) "word" = some none)
    (icBroken : PySem.W.isClsIn K CBroken = true)
    (aWhole : PySem.W.nsIn K mainGlobals "Whole" = some (some (.ref CWhole)))
    (xWhole : K.lookup CWhole = some (excClassObj nmWhole qnWhole CWhole NWhole bsWhole bmWhole true snWhole subWhole abWhole colWhole ddWhole p0Whole p1Whole p2Whole p3Whole p5Whole "ValueError.__new__"))
    (rWhole : PySem.HandSPX.refsVE bmWhole = true)
    (saWhole : PySem.W.findIn K (.ref CWhole) "__setattr__" = some (some (.builtin "object.__setattr__")))
    (exWhole : PySem.W.subIn K (.ref CWhole) (.type "BaseException") = some true)
    (tyWhole : PySem.W.typeIn K (.ref CWhole) = some (.type "type"))
    (kcWhole : PySem.W.keepIn K (.ref CWhole) = true)
    (gaWhole : PySem.W.findIn K (.ref CWhole) "__getattribute__" = some (some (.builtin "BaseException.__getattribute__")))
    (ggWhole : PySem.W.findIn K (.ref CWhole) "__getattr__" = some none)
    (hdWhole : PySem.W.hasDictIn K CWhole = true)
    (iWhole : PySem.W.findIn K (.ref CWhole) "__init__" = some (some (.ref fWhole)))
    (tiWhole : PySem.W.typeIn K (.ref fWhole) = some (.type "function"))
    (lWhole : K.lookup fWhole = some ⟨ocWhole, odWhole, .func (PySem.W.fnOf "__init__" "Whole.__init__" (defArgs sWholeI) (defBody sWholeI) (defScope sWholeI) .none kVWhole dcWhole pmWhole anWhole cdWhole ctWhole), slWhole⟩)
    (cWhole : PySem.W.codeIn K cdWhole "Whole.__init__" = true)
    (kfWhole : PySem.W.keepIn K (.ref fWhole) = true)
    (wWhole : PySem.W.findIn K (.ref CWhole) "word" = some none)
    (icWhole : PySem.W.isClsIn K CWhole = true)
    (aCNumbers : PySem.W.nsIn K mainGlobals "Numbers" = some (some (.ref CNumbers)))
    (pgNumbers : PySem.W.plainGet K CNumbers Str.empty = true)
    (hdcNumbers : PySem.W.hasDictIn K CNumbers = true)
    (poNumbers : PySem.W.plainOver K CNumbers = true)
    (sacNumbers : PySem.W.findIn K (.ref CNumbers) "__setattr__" = some (some (.builtin "object.__setattr__")))
    (mkNumbers : PySem.W.makesIn K CNumbers = true)
    (kpcNumbers : PySem.W.keepIn K (.ref CNumbers) = true)
    (atNumbersinit : PySem.W.findIn K (.ref CNumbers) "__init__" = some (some (.ref fNumbersinit)))
    (fnNumbersinit : PySem.W.isFn K (.ref fNumbersinit) = true)
    (lNumbersinit : K.lookup fNumbersinit = some ⟨ocNumbersinit, odNumbersinit, .func (PySem.W.fnOf "__init__" "Numbers.__init__" (defArgs sNumI) (defBody sNumI) (defScope sNumI) .none kVNumbersinit dcNumbersinit pmNumbersinit anNumbersinit cdNumbersinit ctNumbersinit), slNumbersinit⟩)
    (cNumbersinit : PySem.W.codeIn K cdNumbersinit "Numbers.__init__" = true)
    (kfNumbersinit : PySem.W.keepIn K (.ref fNumbersinit) = true)
    (atNumberstake : PySem.W.findIn K (.ref CNumbers) "take" = some (some (.ref fNumberstake)))
    (fnNumberstake : PySem.W.isFn K (.ref fNumberstake) = true)
    (lNumberstake : K.lookup fNumberstake = some ⟨ocNumberstake, odNumberstake, .func (PySem.W.fnOf "take" "Numbers.take" (defArgs sNumTake) (defBody sNumTake) (defScope sNumTake) .none kVNumberstake dcNumberstake pmNumberstake anNumberstake cdNumberstake ctNumberstake), slNumberstake⟩)
    (cNumberstake : PySem.W.codeIn K cdNumberstake "Numbers.take" = true)
    (kfNumberstake : PySem.W.keepIn K (.ref fNumberstake) = true)
    (naNumberslow : PySem.W.findIn K (.ref CNumbers) "low" = some none)
    (naNumbershigh : PySem.W.findIn K (.ref CNumbers) "high" = some none)
    (naNumbersheld : PySem.W.findIn K (.ref CNumbers) "held" = some none)
    (aCSlip : PySem.W.nsIn K mainGlobals "Slip" = some (some (.ref CSlip)))
    (pgSlip : PySem.W.plainGet K CSlip Str.empty = true)
    (hdcSlip : PySem.W.hasDictIn K CSlip = true)
    (poSlip : PySem.W.plainOver K CSlip = true)
    (sacSlip : PySem.W.findIn K (.ref CSlip) "__setattr__" = some (some (.builtin "object.__setattr__")))
    (mkSlip : PySem.W.makesIn K CSlip = true)
    (kpcSlip : PySem.W.keepIn K (.ref CSlip) = true)
    (atSlipinit : PySem.W.findIn K (.ref CSlip) "__init__" = some (some (.ref fSlipinit)))
    (fnSlipinit : PySem.W.isFn K (.ref fSlipinit) = true)
    (lSlipinit : K.lookup fSlipinit = some ⟨ocSlipinit, odSlipinit, .func (PySem.W.fnOf "__init__" "Slip.__init__" (defArgs sSlpI) (defBody sSlpI) (defScope sSlpI) .none kVSlipinit dcSlipinit pmSlipinit anSlipinit cdSlipinit ctSlipinit), slSlipinit⟩)
    (cSlipinit : PySem.W.codeIn K cdSlipinit "Slip.__init__" = true)
    (kfSlipinit : PySem.W.keepIn K (.ref fSlipinit) = true)
    (naSlipnumber : PySem.W.findIn K (.ref CSlip) "number" = some none)
    (naSlipwhat : PySem.W.findIn K (.ref CSlip) "what" = some none)
    (naSlipout : PySem.W.findIn K (.ref CSlip) "out" = some none)
    (naSlippath : PySem.W.findIn K (.ref CSlip) "path" = some none)
    (naSlipage : PySem.W.findIn K (.ref CSlip) "age" = some none)
    (naSlipmood : PySem.W.findIn K (.ref CSlip) "mood" = some none)
    (naSliptold : PySem.W.findIn K (.ref CSlip) "told" = some none)
    (aCHouse : PySem.W.nsIn K mainGlobals "House" = some (some (.ref CHouse)))
    (pgHouse : PySem.W.plainGet K CHouse Str.empty = true)
    (hdcHouse : PySem.W.hasDictIn K CHouse = true)
    (poHouse : PySem.W.plainOver K CHouse = true)
    (sacHouse : PySem.W.findIn K (.ref CHouse) "__setattr__" = some (some (.builtin "object.__setattr__")))
    (mkHouse : PySem.W.makesIn K CHouse = true)
    (kpcHouse : PySem.W.keepIn K (.ref CHouse) = true)
    (atHouseinit : PySem.W.findIn K (.ref CHouse) "__init__" = some (some (.ref fHouseinit)))
    (fnHouseinit : PySem.W.isFn K (.ref fHouseinit) = true)
    (lHouseinit : K.lookup fHouseinit = some ⟨ocHouseinit, odHouseinit, .func (PySem.W.fnOf "__init__" "House.__init__" (defArgs sHouseI) (defBody sHouseI) (defScope sHouseI) .none kVHouseinit dcHouseinit pmHouseinit anHouseinit cdHouseinit ctHouseinit), slHouseinit⟩)
    (cHouseinit : PySem.W.codeIn K cdHouseinit "House.__init__" = true)
    (kfHouseinit : PySem.W.keepIn K (.ref fHouseinit) = true)
    (atHouselive_slip : PySem.W.findIn K (.ref CHouse) "live_slip" = some (some (.ref fHouselive_slip)))
    (fnHouselive_slip : PySem.W.isFn K (.ref fHouselive_slip) = true)
    (lHouselive_slip : K.lookup fHouselive_slip = some ⟨ocHouselive_slip, odHouselive_slip, .func (PySem.W.fnOf "live_slip" "House.live_slip" (defArgs sLiveSlip) (defBody sLiveSlip) (defScope sLiveSlip) .none kVHouselive_slip dcHouselive_slip pmHouselive_slip anHouselive_slip cdHouselive_slip ctHouselive_slip), slHouselive_slip⟩)
    (cHouselive_slip : PySem.W.codeIn K cdHouselive_slip "House.live_slip" = true)
    (kfHouselive_slip : PySem.W.keepIn K (.ref fHouselive_slip) = true)
    (atHouseslip_rows : PySem.W.findIn K (.ref CHouse) "slip_rows" = some (some (.ref fHouseslip_rows)))
    (fnHouseslip_rows : PySem.W.isFn K (.ref fHouseslip_rows) = true)
    (lHouseslip_rows : K.lookup fHouseslip_rows = some ⟨ocHouseslip_rows, odHouseslip_rows, .func (PySem.W.fnOf "slip_rows" "House.slip_rows" (defArgs sSlipRows) (defBody sSlipRows) (defScope sSlipRows) .none kVHouseslip_rows dcHouseslip_rows pmHouseslip_rows anHouseslip_rows cdHouseslip_rows ctHouseslip_rows), slHouseslip_rows⟩)
    (cHouseslip_rows : PySem.W.codeIn K cdHouseslip_rows "House.slip_rows" = true)
    (kfHouseslip_rows : PySem.W.keepIn K (.ref fHouseslip_rows) = true)
    (naHousename : PySem.W.findIn K (.ref CHouse) "name" = some none)
    (naHousenumbers : PySem.W.findIn K (.ref CHouse) "numbers" = some none)
    (naHousesight : PySem.W.findIn K (.ref CHouse) "sight" = some none)
    (naHousewants : PySem.W.findIn K (.ref CHouse) "wants" = some none)
    (naHousestands : PySem.W.findIn K (.ref CHouse) "stands" = some none)
    (naHousenews : PySem.W.findIn K (.ref CHouse) "news" = some none)
    (naHousequeue : PySem.W.findIn K (.ref CHouse) "queue" = some none)
    (naHousefreed : PySem.W.findIn K (.ref CHouse) "freed" = some none)
    (aCWeb : PySem.W.nsIn K mainGlobals "Web" = some (some (.ref CWeb)))
    (pgWeb : PySem.W.plainGet K CWeb Str.empty = true)
    (hdcWeb : PySem.W.hasDictIn K CWeb = true)
    (poWeb : PySem.W.plainOver K CWeb = true)
    (sacWeb : PySem.W.findIn K (.ref CWeb) "__setattr__" = some (some (.builtin "object.__setattr__")))
    (mkWeb : PySem.W.makesIn K CWeb = true)
    (kpcWeb : PySem.W.keepIn K (.ref CWeb) = true)
    (atWebinit : PySem.W.findIn K (.ref CWeb) "__init__" = some (some (.ref fWebinit)))
    (fnWebinit : PySem.W.isFn K (.ref fWebinit) = true)
    (lWebinit : K.lookup fWebinit = some ⟨ocWebinit, odWebinit, .func (PySem.W.fnOf "__init__" "Web.__init__" (defArgs sW_init) (defBody sW_init) (defScope sW_init) .none kVWebinit dcWebinit pmWebinit anWebinit cdWebinit ctWebinit), slWebinit⟩)
    (cWebinit : PySem.W.codeIn K cdWebinit "Web.__init__" = true)
    (kfWebinit : PySem.W.keepIn K (.ref fWebinit) = true)
    (atWeblen : PySem.W.findIn K (.ref CWeb) "__len__" = some (some (.ref fWeblen)))
    (fnWeblen : PySem.W.isFn K (.ref fWeblen) = true)
    (lWeblen : K.lookup fWeblen = some ⟨ocWeblen, odWeblen, .func (PySem.W.fnOf "__len__" "Web.__len__" (defArgs sW_len) (defBody sW_len) (defScope sW_len) .none kVWeblen dcWeblen pmWeblen anWeblen cdWeblen ctWeblen), slWeblen⟩)
    (cWeblen : PySem.W.codeIn K cdWeblen "Web.__len__" = true)
    (kfWeblen : PySem.W.keepIn K (.ref fWeblen) = true)
    (atWebrepr : PySem.W.findIn K (.ref CWeb) "__repr__" = some (some (.ref fWebrepr)))
    (fnWebrepr : PySem.W.isFn K (.ref fWebrepr) = true)
    (lWebrepr : K.lookup fWebrepr = some ⟨ocWebrepr, odWebrepr, .func (PySem.W.fnOf "__repr__" "Web.__repr__" (defArgs sW_repr) (defBody sW_repr) (defScope sW_repr) .none kVWebrepr dcWebrepr pmWebrepr anWebrepr cdWebrepr ctWebrepr), slWebrepr⟩)
    (cWebrepr : PySem.W.codeIn K cdWebrepr "Web.__repr__" = true)
    (kfWebrepr : PySem.W.keepIn K (.ref fWebrepr) = true)
    (atWebcheck_houses : PySem.W.findIn K (.ref CWeb) "check_houses" = some (some (.ref fWebcheck_houses)))
    (fnWebcheck_houses : PySem.W.isFn K (.ref fWebcheck_houses) = true)
    (lWebcheck_houses : K.lookup fWebcheck_houses = some ⟨ocWebcheck_houses, odWebcheck_houses, .func (PySem.W.fnOf "check_houses" "Web.check_houses" (defArgs sW_checks) (defBody sW_checks) (defScope sW_checks) .none kVWebcheck_houses dcWebcheck_houses pmWebcheck_houses anWebcheck_houses cdWebcheck_houses ctWebcheck_houses), slWebcheck_houses⟩)
    (cWebcheck_houses : PySem.W.codeIn K cdWebcheck_houses "Web.check_houses" = true)
    (kfWebcheck_houses : PySem.W.keepIn K (.ref fWebcheck_houses) = true)
    (atWebcheck_tie : PySem.W.findIn K (.ref CWeb) "check_tie" = some (some (.ref fWebcheck_tie)))
    (fnWebcheck_tie : PySem.W.isFn K (.ref fWebcheck_tie) = true)
    (lWebcheck_tie : K.lookup fWebcheck_tie = some ⟨ocWebcheck_tie, odWebcheck_tie, .func (PySem.W.fnOf "check_tie" "Web.check_tie" (defArgs sW_checkT) (defBody sW_checkT) (defScope sW_checkT) .none kVWebcheck_tie dcWebcheck_tie pmWebcheck_tie anWebcheck_tie cdWebcheck_tie ctWebcheck_tie), slWebcheck_tie⟩)
    (cWebcheck_tie : PySem.W.codeIn K cdWebcheck_tie "Web.check_tie" = true)
    (kfWebcheck_tie : PySem.W.keepIn K (.ref fWebcheck_tie) = true)
    (atWebbuild : PySem.W.findIn K (.ref CWeb) "build" = some (some (.ref fWebbuild)))
    (fnWebbuild : PySem.W.isFn K (.ref fWebbuild) = true)
    (lWebbuild : K.lookup fWebbuild = some ⟨ocWebbuild, odWebbuild, .func (PySem.W.fnOf "build" "Web.build" (defArgs sW_build) (defBody sW_build) (defScope sW_build) .none (.ref DB) dcWebbuild pmWebbuild anWebbuild cdWebbuild ctWebbuild), slWebbuild⟩)
    (cWebbuild : PySem.W.codeIn K cdWebbuild "Web.build" = true)
    (kfWebbuild : PySem.W.keepIn K (.ref fWebbuild) = true)
    (atWebcut : PySem.W.findIn K (.ref CWeb) "cut" = some (some (.ref fWebcut)))
    (fnWebcut : PySem.W.isFn K (.ref fWebcut) = true)
    (lWebcut : K.lookup fWebcut = some ⟨ocWebcut, odWebcut, .func (PySem.W.fnOf "cut" "Web.cut" (defArgs sW_cut) (defBody sW_cut) (defScope sW_cut) .none kVWebcut dcWebcut pmWebcut anWebcut cdWebcut ctWebcut), slWebcut⟩)
    (cWebcut : PySem.W.codeIn K cdWebcut "Web.cut" = true)
    (kfWebcut : PySem.W.keepIn K (.ref fWebcut) = true)
    (atWebsnap : PySem.W.findIn K (.ref CWeb) "snap" = some (some (.ref fWebsnap)))
    (fnWebsnap : PySem.W.isFn K (.ref fWebsnap) = true)
    (lWebsnap : K.lookup fWebsnap = some ⟨ocWebsnap, odWebsnap, .func (PySem.W.fnOf "snap" "Web.snap" (defArgs sW_snap) (defBody sW_snap) (defScope sW_snap) .none kVWebsnap dcWebsnap pmWebsnap anWebsnap cdWebsnap ctWebsnap), slWebsnap⟩)
    (cWebsnap : PySem.W.codeIn K cdWebsnap "Web.snap" = true)
    (kfWebsnap : PySem.W.keepIn K (.ref fWebsnap) = true)
    (atWebmend : PySem.W.findIn K (.ref CWeb) "mend" = some (some (.ref fWebmend)))
    (fnWebmend : PySem.W.isFn K (.ref fWebmend) = true)
    (lWebmend : K.lookup fWebmend = some ⟨ocWebmend, odWebmend, .func (PySem.W.fnOf "mend" "Web.mend" (defArgs sW_mend) (defBody sW_mend) (defScope sW_mend) .none kVWebmend dcWebmend pmWebmend anWebmend cdWebmend ctWebmend), slWebmend⟩)
    (cWebmend : PySem.W.codeIn K cdWebmend "Web.mend" = true)
    (kfWebmend : PySem.W.keepIn K (.ref fWebmend) = true)
    (atWebcharge : PySem.W.findIn K (.ref CWeb) "charge" = some (some (.ref fWebcharge)))
    (fnWebcharge : PySem.W.isFn K (.ref fWebcharge) = true)
    (lWebcharge : K.lookup fWebcharge = some ⟨ocWebcharge, odWebcharge, .func (PySem.W.fnOf "charge" "Web.charge" (defArgs sW_charge) (defBody sW_charge) (defScope sW_charge) .none kVWebcharge dcWebcharge pmWebcharge anWebcharge cdWebcharge ctWebcharge), slWebcharge⟩)
    (cWebcharge : PySem.W.codeIn K cdWebcharge "Web.charge" = true)
    (kfWebcharge : PySem.W.keepIn K (.ref fWebcharge) = true)
    (atWebties : PySem.W.findIn K (.ref CWeb) "ties" = some (some (.ref fWebties)))
    (fnWebties : PySem.W.isFn K (.ref fWebties) = true)
    (lWebties : K.lookup fWebties = some ⟨ocWebties, odWebties, .func (PySem.W.fnOf "ties" "Web.ties" (defArgs sW_ties) (defBody sW_ties) (defScope sW_ties) .none kVWebties dcWebties pmWebties anWebties cdWebties ctWebties), slWebties⟩)
    (cWebties : PySem.W.codeIn K cdWebties "Web.ties" = true)
    (kfWebties : PySem.W.keepIn K (.ref fWebties) = true)
    (atWebrows : PySem.W.findIn K (.ref CWeb) "rows" = some (some (.ref fWebrows)))
    (fnWebrows : PySem.W.isFn K (.ref fWebrows) = true)
    (lWebrows : K.lookup fWebrows = some ⟨ocWebrows, odWebrows, .func (PySem.W.fnOf "rows" "Web.rows" (defArgs sW_rows) (defBody sW_rows) (defScope sW_rows) .none kVWebrows dcWebrows pmWebrows anWebrows cdWebrows ctWebrows), slWebrows⟩)
    (cWebrows : PySem.W.codeIn K cdWebrows "Web.rows" = true)
    (kfWebrows : PySem.W.keepIn K (.ref fWebrows) = true)
    (atWebtunnels : PySem.W.findIn K (.ref CWeb) "tunnels" = some (some (.ref fWebtunnels)))
    (fnWebtunnels : PySem.W.isFn K (.ref fWebtunnels) = true)
    (lWebtunnels : K.lookup fWebtunnels = some ⟨ocWebtunnels, odWebtunnels, .func (PySem.W.fnOf "tunnels" "Web.tunnels" (defArgs sW_tunnels) (defBody sW_tunnels) (defScope sW_tunnels) .none kVWebtunnels dcWebtunnels pmWebtunnels anWebtunnels cdWebtunnels ctWebtunnels), slWebtunnels⟩)
    (cWebtunnels : PySem.W.codeIn K cdWebtunnels "Web.tunnels" = true)
    (kfWebtunnels : PySem.W.keepIn K (.ref fWebtunnels) = true)
    (naWebhomes : PySem.W.findIn K (.ref CWeb) "homes" = some none)
    (naWebbonds : PySem.W.findIn K (.ref CWeb) "bonds" = some none)
    (naWebmail : PySem.W.findIn K (.ref CWeb) "mail" = some none)
    (naWebbores : PySem.W.findIn K (.ref CWeb) "bores" = some none)
    (naWebever : PySem.W.findIn K (.ref CWeb) "ever" = some none)
    (coMOST_HOUSES : PySem.W.nsIn K mainGlobals "MOST_HOUSES" = some (some (.int 8 tkMOST_HOUSES)))
    (coMOST_TIES : PySem.W.nsIn K mainGlobals "MOST_TIES" = some (some (.int 14 tkMOST_TIES)))
    (coMOST_PRICE : PySem.W.nsIn K mainGlobals "MOST_PRICE" = some (some (.int 9 tkMOST_PRICE)))
    (coMOST_ABOVE : PySem.W.nsIn K mainGlobals "MOST_ABOVE" = some (some (.int 63 tkMOST_ABOVE)))
    (coMOST_NUMBER : PySem.W.nsIn K mainGlobals "MOST_NUMBER" = some (some (.int 9999 tkMOST_NUMBER)))
    (suNoHouseNoHouse : PySem.W.subIn K (.ref CNoHouse) (.ref CNoHouse) = some true)
    (suNoTieNoHouse : PySem.W.subIn K (.ref CNoTie) (.ref CNoHouse) = some false)
    (suNoTieNoTie : PySem.W.subIn K (.ref CNoTie) (.ref CNoTie) = some true)
    (suTooManyNoHouse : PySem.W.subIn K (.ref CTooMany) (.ref CNoHouse) = some false)
    (suTooManyNoTie : PySem.W.subIn K (.ref CTooMany) (.ref CNoTie) = some false)
    (suTooManyTooMany : PySem.W.subIn K (.ref CTooMany) (.ref CTooMany) = some true)
    (suHasTieNoHouse : PySem.W.subIn K (.ref CHasTie) (.ref CNoHouse) = some false)
    (suHasTieNoTie : PySem.W.subIn K (.ref CHasTie) (.ref CNoTie) = some false)
    (suHasTieTooMany : PySem.W.subIn K (.ref CHasTie) (.ref CTooMany) = some false)
    (suBadPriceNoHouse : PySem.W.subIn K (.ref CBadPrice) (.ref CNoHouse) = some false)
    (suBadPriceNoTie : PySem.W.subIn K (.ref CBadPrice) (.ref CNoTie) = some false)
    (suBadPriceTooMany : PySem.W.subIn K (.ref CBadPrice) (.ref CTooMany) = some false)
    (suBrokenNoHouse : PySem.W.subIn K (.ref CBroken) (.ref CNoHouse) = some false)
    (suBrokenNoTie : PySem.W.subIn K (.ref CBroken) (.ref CNoTie) = some false)
    (suBrokenTooMany : PySem.W.subIn K (.ref CBroken) (.ref CTooMany) = some false)
    (suWholeNoHouse : PySem.W.subIn K (.ref CWhole) (.ref CNoHouse) = some false)
    (suWholeNoTie : PySem.W.subIn K (.ref CWhole) (.ref CNoTie) = some false)
    (suWholeTooMany : PySem.W.subIn K (.ref CWhole) (.ref CTooMany) = some false)
    (aNoTunnel : PySem.W.nsIn K mainGlobals "NoTunnel" = some (some (.ref CNoTunnel)))
    (exNoTunnel : PySem.W.subIn K (.ref CNoTunnel) (.type "BaseException") = some true)
    (icNoTunnel : PySem.W.isClsIn K CNoTunnel = true)
    (tyNoTunnel : PySem.W.typeIn K (.ref CNoTunnel) = some (.type "type"))
    (aShort : PySem.W.nsIn K mainGlobals "Short" = some (some (.ref CShort)))
    (exShort : PySem.W.subIn K (.ref CShort) (.type "BaseException") = some true)
    (icShort : PySem.W.isClsIn K CShort = true)
    (tyShort : PySem.W.typeIn K (.ref CShort) = some (.type "type"))
    (aLone : PySem.W.nsIn K mainGlobals "Lone" = some (some (.ref CLone)))
    (exLone : PySem.W.subIn K (.ref CLone) (.type "BaseException") = some true)
    (icLone : PySem.W.isClsIn K CLone = true)
    (tyLone : PySem.W.typeIn K (.ref CLone) = some (.type "type"))
    (exS : PySem.W.subIn K (.ref CS) (.type "BaseException") = some true)
    (icS : PySem.W.isClsIn K CS = true)
    (tyS : PySem.W.typeIn K (.ref CS) = some (.type "type"))
    (suHasTieNoTunnel : PySem.W.subIn K (.ref CHasTie) (.ref CNoTunnel) = some false)
    (suHasTieShort : PySem.W.subIn K (.ref CHasTie) (.ref CShort) = some false)
    (suHasTieLone : PySem.W.subIn K (.ref CHasTie) (.ref CLone) = some false)
    (suHasTieS : PySem.W.subIn K (.ref CHasTie) (.ref CS) = some true)
    (suBadPriceNoTunnel : PySem.W.subIn K (.ref CBadPrice) (.ref CNoTunnel) = some false)
    (suBadPriceShort : PySem.W.subIn K (.ref CBadPrice) (.ref CShort) = some false)
    (suBadPriceLone : PySem.W.subIn K (.ref CBadPrice) (.ref CLone) = some false)
    (suBadPriceS : PySem.W.subIn K (.ref CBadPrice) (.ref CS) = some true)
    (suBrokenNoTunnel : PySem.W.subIn K (.ref CBroken) (.ref CNoTunnel) = some false)
    (suBrokenShort : PySem.W.subIn K (.ref CBroken) (.ref CShort) = some false)
    (suBrokenLone : PySem.W.subIn K (.ref CBroken) (.ref CLone) = some false)
    (suBrokenS : PySem.W.subIn K (.ref CBroken) (.ref CS) = some true)
    (suWholeNoTunnel : PySem.W.subIn K (.ref CWhole) (.ref CNoTunnel) = some false)
    (suWholeShort : PySem.W.subIn K (.ref CWhole) (.ref CShort) = some false)
    (suWholeLone : PySem.W.subIn K (.ref CWhole) (.ref CLone) = some false)
    (suWholeS : PySem.W.subIn K (.ref CWhole) (.ref CS) = some true)
    (hdP : PySem.W.codeHdIn K cT PT = true)
    (nP : K.lookup PT = none)
    (eP : h.get? PT = some { cls := .none, data := .fields #[] })
    (hdU : PySem.W.codeHdIn K cU PU = true)
    (nU : K.lookup PU = none)
    (eU : h.get? PU = some { cls := .none, data := .fields #[] })
    (nPU : PT ≠ PU)
    (kwB : PySem.W.nsIn K DB "price" = some (some (.int 1 tkB)))
    (dWH : CWeb ≠ CHouse)
    (dWN : CWeb ≠ CNumbers)
    (dWS : CWeb ≠ CSlip)
    (dNH : CNumbers ≠ CHouse)
    (dSH : CSlip ≠ CHouse)
    (zmax : PySem.W.nsIn K mainGlobals "max" = some none)
    (zrepr : PySem.W.nsIn K mainGlobals "repr" = some none)
    (zlen : PySem.W.nsIn K mainGlobals "len" = some none)
    (zrange : PySem.W.nsIn K mainGlobals "range" = some none)
    (zlist : PySem.W.nsIn K mainGlobals "list" = some none)
    (ztuple : PySem.W.nsIn K mainGlobals "tuple" = some none)
    (zisinstance : PySem.W.nsIn K mainGlobals "isinstance" = some none)
    (zbool : PySem.W.nsIn K mainGlobals "bool" = some none)
    (zint : PySem.W.nsIn K mainGlobals "int" = some none)
    (zstr : PySem.W.nsIn K mainGlobals "str" = some none)
    (zall : PySem.W.nsIn K mainGlobals "all" = some none)
    (zzip : PySem.W.nsIn K mainGlobals "zip" = some none)
    (zsum : PySem.W.nsIn K mainGlobals "sum" = some none)
    (zmin : PySem.W.nsIn K mainGlobals "min" = some none)
    (zsorted : PySem.W.nsIn K mainGlobals "sorted" = some none)
    (zabs : PySem.W.nsIn K mainGlobals "abs" = some none)
    (zenumerate : PySem.W.nsIn K mainGlobals "enumerate" = some none)
    : LamX.LawAtS l w K CX0 12 63 "_law_script" mg fa h := by
  have e := hfa.symm.trans (PySem.W.mg_of X G a27)
  cases e
  have T : BT mg := ⟨PySem.W.mg_none_of X G zlen, PySem.W.mg_none_of X G zrange, PySem.W.mg_none_of X G zlist, PySem.W.mg_none_of X G ztuple, PySem.W.mg_none_of X G zisinstance, PySem.W.mg_none_of X G zbool, PySem.W.mg_none_of X G zint, PySem.W.mg_none_of X G zstr, PySem.W.mg_none_of X G zall, PySem.W.mg_none_of X G zzip, PySem.W.mg_none_of X G zsum, PySem.W.mg_none_of X G zmin, PySem.W.mg_none_of X G zsorted, PySem.W.mg_none_of X G zabs, PySem.W.mg_none_of X G zenumerate⟩
  have F_law_box := fun_mk (st := sBox) l0 c0 k0
  have g_law_box := PySem.W.mg_of X G a0
  have b_law_box := F_law_box.binds (ps := ["_law_script"]) fun _ _ _ _ _ _ us hl => match us, hl with | [_], _ => rfl
  have F_law_take := fun_mk (st := sTake) l1 c1 k1
  have g_law_take := PySem.W.mg_of X G a1
  have b_law_take := F_law_take.binds (ps := ["_law_box_here", "_law_sides"]) fun _ _ _ _ _ _ us hl => match us, hl with | [_, _], _ => rfl
  have F_law_same := fun_mk (st := sSame) l2 c2 k2
  have g_law_same := PySem.W.mg_of X G a2
  have b_law_same := F_law_same.binds (ps := ["_law_found", "_law_due"]) fun _ _ _ _ _ _ us hl => match us, hl with | [_, _], _ => rfl
  have F_law_why := fun_mk (st := sWhy) l3 c3 k3
  have g_law_why := PySem.W.mg_of X G a3
  have b_law_why := F_law_why.binds (ps := ["_law_ask"]) fun _ _ _ _ _ _ us hl => match us, hl with | [_], _ => rfl
  have F_law_of := fun_mk (st := sOf) l4 c4 k4
  have g_law_of := PySem.W.mg_of X G a4
  have b_law_of := F_law_of.binds (ps := ["_law_box_here", "_law_some"]) fun _ _ _ _ _ _ us hl => match us, hl with | [_, _], _ => rfl
  have F_law_wild := fun_mk (st := sWild) l5 c5 k5
  have g_law_wild := PySem.W.mg_of X G a5
  have b_law_wild := F_law_wild.binds (ps := ["_law_box_here"]) fun _ _ _ _ _ _ us hl => match us, hl with | [_], _ => rfl
  have F_law_pairs := fun_mk (st := sPairs) l6 c6 k6
  have g_law_pairs := PySem.W.mg_of X G a6
  have b_law_pairs := F_law_pairs.binds (ps := ["_law_many"]) fun _ _ _ _ _ _ us hl => match us, hl with | [_], _ => rfl
  have F_law_shuffled := fun_mk (st := sShuf) l7 c7 k7
  have g_law_shuffled := PySem.W.mg_of X G a7
  have b_law_shuffled := F_law_shuffled.binds (ps := ["_law_box_here", "_law_some"]) fun _ _ _ _ _ _ us hl => match us, hl with | [_, _], _ => rfl
  have F_law_ranges := fun_mk (st := sRangesL) l8 c8 k8
  have g_law_ranges := PySem.W.mg_of X G a8
  have b_law_ranges := F_law_ranges.binds (ps := ["_law_box_here", "_law_many", "_law_wide"]) fun _ _ _ _ _ _ us hl => match us, hl with | [_, _, _], _ => rfl
  have F_law_tie_deed := fun_mk (st := sDeed) l9 c9 k9
  have g_law_tie_deed := PySem.W.mg_of X G a9
  have b_law_tie_deed := F_law_tie_deed.binds (ps := ["_law_box_here", "_law_many", "_law_ties"]) fun _ _ _ _ _ _ us hl => match us, hl with | [_, _, _], _ => rfl
  have F_law_refused := fun_mk (st := sRefused) l10 c10 k10
  have g_law_refused := PySem.W.mg_of X G a10
  have b_law_refused := F_law_refused.binds (ps := ["_law_many", "_law_ties", "_law_deed"]) fun _ _ _ _ _ _ us hl => match us, hl with | [_, _, _], _ => rfl
  have F_law_acted := fun_mk (st := sActed) l11 c11 k11
  have g_law_acted := PySem.W.mg_of X G a11
  have b_law_acted := F_law_acted.binds (ps := ["_law_web", "_law_deed"]) fun _ _ _ _ _ _ us hl => match us, hl with | [_, _], _ => rfl
  have Fis_range := fun_mk (st := sIsRange) l12 c12 k12
  have gis_range := PySem.W.mg_of X G a12
  have bis_range := Fis_range.binds (ps := ["low", "high"]) fun _ _ _ _ _ _ us hl => match us, hl with | [_, _], _ => rfl
  have Fmake_slip := fun_mk (st := sMakeSlip) l13 c13 k13
  have gmake_slip := PySem.W.mg_of X G a13
  have bmake_slip := Fmake_slip.binds (ps := ["web", "home", "what", "out", "path", "holders"]) fun _ _ _ _ _ _ us hl => match us, hl with | [_, _, _, _, _, _], _ => rfl
  have Fcheck_house := fun_mk (st := sCheck) l14 c14 k14
  have gcheck_house := PySem.W.mg_of X G a14
  have bcheck_house := Fcheck_house.binds (ps := ["many", "house"]) fun _ _ _ _ _ _ us hl => match us, hl with | [_, _], _ => rfl
  have Fsorted_pair := fun_mk (st := sPair2) l15 c15 k15
  have gsorted_pair := PySem.W.mg_of X G a15
  have bsorted_pair := Fsorted_pair.binds (ps := ["one", "other"]) fun _ _ _ _ _ _ us hl => match us, hl with | [_, _], _ => rfl
  have Fcheck_price := fun_mk (st := sPrice) l16 c16 k16
  have gcheck_price := PySem.W.mg_of X G a16
  have bcheck_price := Fcheck_price.binds (ps := ["price"]) fun _ _ _ _ _ _ us hl => match us, hl with | [_], _ => rfl
  have Fput_letter := fun_mk (st := sPutL) l17 c17 k17
  have gput_letter := PySem.W.mg_of X G a17
  have bput_letter := Fput_letter.binds (ps := ["web", "home", "other", "letter"]) fun _ _ _ _ _ _ us hl => match us, hl with | [_, _, _, _], _ => rfl
  have Ftell_slips := fun_mk (st := sTellS) l18 c18 k18
  have gtell_slips := PySem.W.mg_of X G a18
  have btell_slips := Ftell_slips.binds (ps := ["web", "home", "other"]) fun _ _ _ _ _ _ us hl => match us, hl with | [_, _, _], _ => rfl
  have Flet_go := fun_mk (st := sLetGo) l19 c19 k19
  have glet_go := PySem.W.mg_of X G a19
  have blet_go := Flet_go.binds (ps := ["home", "slip"]) fun _ _ _ _ _ _ us hl => match us, hl with | [_, _], _ => rfl
  have Flose_holder := fun_mk (st := sLoseH) l20 c20 k20
  have glose_holder := PySem.W.mg_of X G a20
  have blose_holder := Flose_holder.binds (ps := ["web", "home", "slip", "other"]) fun _ _ _ _ _ _ us hl => match us, hl with | [_, _, _, _], _ => rfl
  have Fdrop_tunnels := fun_mk (st := sDropT) l21 c21 k21
  have gdrop_tunnels := PySem.W.mg_of X G a21
  have bdrop_tunnels := Fdrop_tunnels.binds (ps := ["web", "home", "is_gone"]) fun _ _ _ _ _ _ us hl => match us, hl with | [_, _, _], _ => rfl
  have Fdrop_towards := fun_mk (st := sDropW) l22 c22 k22
  have gdrop_towards := PySem.W.mg_of X G a22
  have bdrop_towards := Fdrop_towards.binds (ps := ["home", "ahead"]) fun _ _ _ _ _ _ us hl => match us, hl with | [_, _], _ => rfl
  have Ftry_goal := fun_mk (st := sTryG) l23 c23 k23
  have gtry_goal := PySem.W.mg_of X G a23
  have btry_goal := Ftry_goal.binds (ps := ["web", "home", "goal"]) fun _ _ _ _ _ _ us hl => match us, hl with | [_, _, _], _ => rfl
  have Ftry_all := fun_mk (st := sTryA) l24 c24 k24
  have gtry_all := PySem.W.mg_of X G a24
  have btry_all := Ftry_all.binds (ps := ["web", "home"]) fun _ _ _ _ _ _ us hl => match us, hl with | [_, _], _ => rfl
  have Fgo_on := fun_mk (st := sGoOn) l25 c25 k25
  have ggo_on := PySem.W.mg_of X G a25
  have bgo_on := Fgo_on.binds (ps := ["web", "home"]) fun _ _ _ _ _ _ us hl => match us, hl with | [_, _], _ => rfl
  have Flose_house := fun_mk (st := sLoseHouse) l26 c26 k26
  have glose_house := PySem.W.mg_of X G a26
  have blose_house := Flose_house.binds (ps := ["web", "home", "other"]) fun _ _ _ _ _ _ us hl => match us, hl with | [_, _, _], _ => rfl
  have Flaw := fun_mk (st := sLaw) l27 c27 k27
  have glaw := PySem.W.mg_of X G a27
  have blaw := Flaw.binds (ps := ["_law_script"]) fun _ _ _ _ _ _ us hl => match us, hl with | [_], _ => rfl
  have FS : FunD K "__init__" "SlipError.__init__" (defArgs sSlipI) (defBody sSlipI) (defScope sSlipI) [.str "sliperror", .str "refused"] [] fS _ := ⟨⟨_, _, _, _, _, _, _, _, _, _, rfl, lS, cS, .inr ⟨fun z => (by cases z), TD, _, [.str "sliperror" tk1, .str "refused" tk2], nT, rfl, lT, rfl, .cons ⟨_, rfl⟩ (.cons ⟨_, rfl⟩ .nil)⟩, .inl rfl⟩, kS⟩
  have bS : Binds K (PySem.W.fnOf "__init__" "SlipError.__init__" (defArgs sSlipI) (defBody sSlipI) (defScope sSlipI) (.ref TD) kVS dcS pmS anS cdS ctS) ["self", "word", "why"] [] := by
    obtain ⟨ds, hd, hb⟩ := FS.binds1 (ps := ["self", "word", "why"]) 3 2 (fun z => by cases z) rfl (fun T kV doc pm an cdv ct us its hu hi => match us, hu, its, hi with | [_, _, _], _, [_, _], _ => ⟨_, rfl, rfl⟩)
    cases hd
    exact hb
  have TS : SlipT K mg CS fS := ⟨PySem.W.mg_of X G aS, ⟨rd, rga⟩, atS, kS, vV, PySem.W.mg_none_of X G zV⟩
  have FTooMany := fun_mk (st := sTooManyI) lTooMany cTooMany kfTooMany
  have bTooMany := FTooMany.binds (ps := ["self", "bound"]) fun _ _ _ _ _ _ us hl => match us, hl with | [_, _], _ => rfl
  have TTooMany : ExcT K mg "TooMany" CTooMany fTooMany := ⟨PySem.W.mg_of X G aTooMany, ⟨⟨_, _, _, _, _, _, _, _, _, _, _, _, _, _, _, xTooMany, rTooMany⟩, saTooMany, exTooMany, tyTooMany, kcTooMany⟩, ⟨gaTooMany, ggTooMany, exTooMany, hdTooMany⟩, iTooMany, tiTooMany, wTooMany⟩
  have FNoNumber := fun_mk (st := sNoNumberI) lNoNumber cNoNumber kfNoNumber
  have bNoNumber := FNoNumber.binds (ps := ["self"]) fun _ _ _ _ _ _ us hl => match us, hl with | [_], _ => rfl
  have TNoNumber : ExcT K mg "NoNumber" CNoNumber fNoNumber := ⟨PySem.W.mg_of X G aNoNumber, ⟨⟨_, _, _, _, _, _, _, _, _, _, _, _, _, _, _, xNoNumber, rNoNumber⟩, saNoNumber, exNoNumber, tyNoNumber, kcNoNumber⟩, ⟨gaNoNumber, ggNoNumber, exNoNumber, hdNoNumber⟩, iNoNumber, tiNoNumber, wNoNumber⟩
  have FNoHouse := fun_mk (st := sNoHouseI) lNoHouse cNoHouse kfNoHouse
  have bNoHouse := FNoHouse.binds (ps := ["self", "house"]) fun _ _ _ _ _ _ us hl => match us, hl with | [_, _], _ => rfl
  have TNoHouse : ExcT K mg "NoHouse" CNoHouse fNoHouse := ⟨PySem.W.mg_of X G aNoHouse, ⟨⟨_, _, _, _, _, _, _, _, _, _, _, _, _, _, _, xNoHouse, rNoHouse⟩, saNoHouse, exNoHouse, tyNoHouse, kcNoHouse⟩, ⟨gaNoHouse, ggNoHouse, exNoHouse, hdNoHouse⟩, iNoHouse, tiNoHouse, wNoHouse⟩
  have FNoTie := fun_mk (st := sNoTieI) lNoTie cNoTie kfNoTie
  have bNoTie := FNoTie.binds (ps := ["self", "one", "other"]) fun _ _ _ _ _ _ us hl => match us, hl with | [_, _, _], _ => rfl
  have TNoTie : ExcT K mg "NoTie" CNoTie fNoTie := ⟨PySem.W.mg_of X G aNoTie, ⟨⟨_, _, _, _, _, _, _, _, _, _, _, _, _, _, _, xNoTie, rNoTie⟩, saNoTie, exNoTie, tyNoTie, kcNoTie⟩, ⟨gaNoTie, ggNoTie, exNoTie, hdNoTie⟩, iNoTie, tiNoTie, wNoTie⟩
  have FHasTie := fun_mk (st := sHasTieI) lHasTie cHasTie kfHasTie
  have bHasTie := FHasTie.binds (ps := ["self"]) fun _ _ _ _ _ _ us hl => match us, hl with | [_], _ => rfl
  have THasTie : ExcT K mg "HasTie" CHasTie fHasTie := ⟨PySem.W.mg_of X G aHasTie, ⟨⟨_, _, _, _, _, _, _, _, _, _, _, _, _, _, _, xHasTie, rHasTie⟩, saHasTie, exHasTie, tyHasTie, kcHasTie⟩, ⟨gaHasTie, ggHasTie, exHasTie, hdHasTie⟩, iHasTie, tiHasTie, wHasTie⟩
  have FBadPrice := fun_mk (st := sBadPriceI) lBadPrice cBadPrice kfBadPrice
  have bBadPrice := FBadPrice.binds (ps := ["self"]) fun _ _ _ _ _ _ us hl => match us, hl with | [_], _ => rfl
  have TBadPrice : ExcT K mg "BadPrice" CBadPrice fBadPrice := ⟨PySem.W.mg_of X G aBadPrice, ⟨⟨_, _, _, _, _, _, _, _, _, _, _, _, _, _, _, xBadPrice, rBadPrice⟩, saBadPrice, exBadPrice, tyBadPrice, kcBadPrice⟩, ⟨gaBadPrice, ggBadPrice, exBadPrice, hdBadPrice⟩, iBadPrice, tiBadPrice, wBadPrice⟩
  have FBroken := fun_mk (st := sBrokenI) lBroken cBroken kfBroken
  have bBroken := FBroken.binds (ps := ["self"]) fun _ _ _ _ _ _ us hl => match us, hl with | [_], _ => rfl
  have TBroken : ExcT K mg "Broken" CBroken fBroken := ⟨PySem.W.mg_of X G aBroken, ⟨⟨_, _, _, _, _, _, _, _, _, _, _, _, _, _, _, xBroken, rBroken⟩, saBroken, exBroken, tyBroken, kcBroken⟩, ⟨gaBroken, ggBroken, exBroken, hdBroken⟩, iBroken, tiBroken, wBroken⟩
  have FWhole := fun_mk (st := sWholeI) lWhole cWhole kfWhole
  have bWhole := FWhole.binds (ps := ["self"]) fun _ _ _ _ _ _ us hl => match us, hl with | [_], _ => rfl
  have TWhole : ExcT K mg "Whole" CWhole fWhole := ⟨PySem.W.mg_of X G aWhole, ⟨⟨_, _, _, _, _, _, _, _, _, _, _, _, _, _, _, xWhole, rWhole⟩, saWhole, exWhole, tyWhole, kcWhole⟩, ⟨gaWhole, ggWhole, exWhole, hdWhole⟩, iWhole, tiWhole, wWhole⟩
  have FNumbersinit := fun_mk (st := sNumI) lNumbersinit cNumbersinit kfNumbersinit
  have bNumbersinit := FNumbersinit.binds (ps := ["self", "low", "high"]) fun _ _ _ _ _ _ us hl => match us, hl with | [_, _, _], _ => rfl
  have MNumbersinit : Meth K CNumbers "__init__" fNumbersinit := ⟨atNumbersinit, fnNumbersinit, kfNumbersinit⟩
  have FNumberstake := fun_mk (st := sNumTake) lNumberstake cNumberstake kfNumberstake
  have bNumberstake := FNumberstake.binds (ps := ["self"]) fun _ _ _ _ _ _ us hl => match us, hl with | [_], _ => rfl
  have MNumberstake : Meth K CNumbers "take" fNumberstake := ⟨atNumberstake, fnNumberstake, kfNumberstake⟩
  have gCNumbers := PySem.W.mg_of X G aCNumbers
  have clNumbers : Cls K CNumbers := ⟨pgNumbers, hdcNumbers, poNumbers, sacNumbers⟩
  have mkNumbers : Mk K CNumbers fNumbersinit := ⟨mkNumbers, atNumbersinit, fnNumbersinit, kpcNumbers⟩
  have FSlipinit := fun_mk (st := sSlpI) lSlipinit cSlipinit kfSlipinit
  have bSlipinit := FSlipinit.binds (ps := ["self", "number", "what", "out", "path", "age"]) fun _ _ _ _ _ _ us hl => match us, hl with | [_, _, _, _, _, _], _ => rfl
  have MSlipinit : Meth K CSlip "__init__" fSlipinit := ⟨atSlipinit, fnSlipinit, kfSlipinit⟩
  have gCSlip := PySem.W.mg_of X G aCSlip
  have clSlip : Cls K CSlip := ⟨pgSlip, hdcSlip, poSlip, sacSlip⟩
  have mkSlip : Mk K CSlip fSlipinit := ⟨mkSlip, atSlipinit, fnSlipinit, kpcSlip⟩
  have FHouseinit := fun_mk (st := sHouseI) lHouseinit cHouseinit kfHouseinit
  have bHouseinit := FHouseinit.binds (ps := ["self", "name", "low", "high", "many"]) fun _ _ _ _ _ _ us hl => match us, hl with | [_, _, _, _, _], _ => rfl
  have MHouseinit : Meth K CHouse "__init__" fHouseinit := ⟨atHouseinit, fnHouseinit, kfHouseinit⟩
  have FHouselive_slip := fun_mk (st := sLiveSlip) lHouselive_slip cHouselive_slip kfHouselive_slip
  have bHouselive_slip := FHouselive_slip.binds (ps := ["self", "what"]) fun _ _ _ _ _ _ us hl => match us, hl with | [_, _], _ => rfl
  have MHouselive_slip : Meth K CHouse "live_slip" fHouselive_slip := ⟨atHouselive_slip, fnHouselive_slip, kfHouselive_slip⟩
  have FHouseslip_rows := fun_mk (st := sSlipRows) lHouseslip_rows cHouseslip_rows kfHouseslip_rows
  have bHouseslip_rows := FHouseslip_rows.binds (ps := ["self"]) fun _ _ _ _ _ _ us hl => match us, hl with | [_], _ => rfl
  have MHouseslip_rows : Meth K CHouse "slip_rows" fHouseslip_rows := ⟨atHouseslip_rows, fnHouseslip_rows, kfHouseslip_rows⟩
  have gCHouse := PySem.W.mg_of X G aCHouse
  have clHouse : Cls K CHouse := ⟨pgHouse, hdcHouse, poHouse, sacHouse⟩
  have mkHouse : Mk K CHouse fHouseinit := ⟨mkHouse, atHouseinit, fnHouseinit, kpcHouse⟩
  have FWebinit := fun_mk (st := sW_init) lWebinit cWebinit kfWebinit
  have bWebinit := FWebinit.binds (ps := ["self", "ranges"]) fun _ _ _ _ _ _ us hl => match us, hl with | [_, _], _ => rfl
  have MWebinit : Meth K CWeb "__init__" fWebinit := ⟨atWebinit, fnWebinit, kfWebinit⟩
  have FWeblen := fun_mk (st := sW_len) lWeblen cWeblen kfWeblen
  have bWeblen := FWeblen.binds (ps := ["self"]) fun _ _ _ _ _ _ us hl => match us, hl with | [_], _ => rfl
  have MWeblen : Meth K CWeb "__len__" fWeblen := ⟨atWeblen, fnWeblen, kfWeblen⟩
  have FWebrepr := fun_mk (st := sW_repr) lWebrepr cWebrepr kfWebrepr
  have bWebrepr := FWebrepr.binds (ps := ["self"]) fun _ _ _ _ _ _ us hl => match us, hl with | [_], _ => rfl
  have MWebrepr : Meth K CWeb "__repr__" fWebrepr := ⟨atWebrepr, fnWebrepr, kfWebrepr⟩
  have FWebcheck_houses := fun_mk (st := sW_checks) lWebcheck_houses cWebcheck_houses kfWebcheck_houses
  have bWebcheck_houses := FWebcheck_houses.binds (ps := ["self", "houses"]) fun _ _ _ _ _ _ us hl => match us, hl with | [_, _], _ => rfl
  have MWebcheck_houses : Meth K CWeb "check_houses" fWebcheck_houses := ⟨atWebcheck_houses, fnWebcheck_houses, kfWebcheck_houses⟩
  have FWebcheck_tie := fun_mk (st := sW_checkT) lWebcheck_tie cWebcheck_tie kfWebcheck_tie
  have bWebcheck_tie := FWebcheck_tie.binds (ps := ["self", "one", "other"]) fun _ _ _ _ _ _ us hl => match us, hl with | [_, _, _], _ => rfl
  have MWebcheck_tie : Meth K CWeb "check_tie" fWebcheck_tie := ⟨atWebcheck_tie, fnWebcheck_tie, kfWebcheck_tie⟩
  have FWebbuild := fun_mk (st := sW_build) lWebbuild cWebbuild kfWebbuild
  have MWebbuild : Meth K CWeb "build" fWebbuild := ⟨atWebbuild, fnWebbuild, kfWebbuild⟩
  have FWebcut := fun_mk (st := sW_cut) lWebcut cWebcut kfWebcut
  have bWebcut := FWebcut.binds (ps := ["self", "one", "other"]) fun _ _ _ _ _ _ us hl => match us, hl with | [_, _, _], _ => rfl
  have MWebcut : Meth K CWeb "cut" fWebcut := ⟨atWebcut, fnWebcut, kfWebcut⟩
  have FWebsnap := fun_mk (st := sW_snap) lWebsnap cWebsnap kfWebsnap
  have bWebsnap := FWebsnap.binds (ps := ["self", "one", "other"]) fun _ _ _ _ _ _ us hl => match us, hl with | [_, _, _], _ => rfl
  have MWebsnap : Meth K CWeb "snap" fWebsnap := ⟨atWebsnap, fnWebsnap, kfWebsnap⟩
  have FWebmend := fun_mk (st := sW_mend) lWebmend cWebmend kfWebmend
  have bWebmend := FWebmend.binds (ps := ["self", "one", "other"]) fun _ _ _ _ _ _ us hl => match us, hl with | [_, _, _], _ => rfl
  have MWebmend : Meth K CWeb "mend" fWebmend := ⟨atWebmend, fnWebmend, kfWebmend⟩
  have FWebcharge := fun_mk (st := sW_charge) lWebcharge cWebcharge kfWebcharge
  have MWebcharge : Meth K CWeb "charge" fWebcharge := ⟨atWebcharge, fnWebcharge, kfWebcharge⟩
  have FWebties := fun_mk (st := sW_ties) lWebties cWebties kfWebties
  have bWebties := FWebties.binds (ps := ["self"]) fun _ _ _ _ _ _ us hl => match us, hl with | [_], _ => rfl
  have MWebties : Meth K CWeb "ties" fWebties := ⟨atWebties, fnWebties, kfWebties⟩
  have FWebrows := fun_mk (st := sW_rows) lWebrows cWebrows kfWebrows
  have bWebrows := FWebrows.binds (ps := ["self"]) fun _ _ _ _ _ _ us hl => match us, hl with | [_], _ => rfl
  have MWebrows : Meth K CWeb "rows" fWebrows := ⟨atWebrows, fnWebrows, kfWebrows⟩
  have FWebtunnels := fun_mk (st := sW_tunnels) lWebtunnels cWebtunnels kfWebtunnels
  have bWebtunnels := FWebtunnels.binds (ps := ["self"]) fun _ _ _ _ _ _ us hl => match us, hl with | [_], _ => rfl
  have MWebtunnels : Meth K CWeb "tunnels" fWebtunnels := ⟨atWebtunnels, fnWebtunnels, kfWebtunnels⟩
  have gCWeb := PySem.W.mg_of X G aCWeb
  have clWeb : Cls K CWeb := ⟨pgWeb, hdcWeb, poWeb, sacWeb⟩
  have mkWeb : Mk K CWeb fWebinit := ⟨mkWeb, atWebinit, fnWebinit, kpcWeb⟩
  have m_max := PySem.W.mg_none_of X G zmax
  have m_repr := PySem.W.mg_none_of X G zrepr
  have gMOST_HOUSES := PySem.W.mg_of X G coMOST_HOUSES
  have gMOST_TIES := PySem.W.mg_of X G coMOST_TIES
  have gMOST_PRICE := PySem.W.mg_of X G coMOST_PRICE
  have gMOST_ABOVE := PySem.W.mg_of X G coMOST_ABOVE
  have gMOST_NUMBER := PySem.W.mg_of X G coMOST_NUMBER
  have emNoHouseNoHouse : PySem.W.exmOne K (.ref CNoHouse) (.ref CNoHouse) = some true := exm_pair exNoHouse icNoHouse tyNoHouse suNoHouseNoHouse
  have emNoTieNoHouse : PySem.W.exmOne K (.ref CNoTie) (.ref CNoHouse) = some false := exm_pair exNoHouse icNoHouse tyNoHouse suNoTieNoHouse
  have emNoTieNoTie : PySem.W.exmOne K (.ref CNoTie) (.ref CNoTie) = some true := exm_pair exNoTie icNoTie tyNoTie suNoTieNoTie
  have emTooManyNoHouse : PySem.W.exmOne K (.ref CTooMany) (.ref CNoHouse) = some false := exm_pair exNoHouse icNoHouse tyNoHouse suTooManyNoHouse
  have emTooManyNoTie : PySem.W.exmOne K (.ref CTooMany) (.ref CNoTie) = some false := exm_pair exNoTie icNoTie tyNoTie suTooManyNoTie
  have emTooManyTooMany : PySem.W.exmOne K (.ref CTooMany) (.ref CTooMany) = some true := exm_pair exTooMany icTooMany tyTooMany suTooManyTooMany
  have emHasTieNoHouse : PySem.W.exmOne K (.ref CHasTie) (.ref CNoHouse) = some false := exm_pair exNoHouse icNoHouse tyNoHouse suHasTieNoHouse
  have emHasTieNoTie : PySem.W.exmOne K (.ref CHasTie) (.ref CNoTie) = some false := exm_pair exNoTie icNoTie tyNoTie suHasTieNoTie
  have emHasTieTooMany : PySem.W.exmOne K (.ref CHasTie) (.ref CTooMany) = some false := exm_pair exTooMany icTooMany tyTooMany suHasTieTooMany
  have emBadPriceNoHouse : PySem.W.exmOne K (.ref CBadPrice) (.ref CNoHouse) = some false := exm_pair exNoHouse icNoHouse tyNoHouse suBadPriceNoHouse
  have emBadPriceNoTie : PySem.W.exmOne K (.ref CBadPrice) (.ref CNoTie) = some false := exm_pair exNoTie icNoTie tyNoTie suBadPriceNoTie
  have emBadPriceTooMany : PySem.W.exmOne K (.ref CBadPrice) (.ref CTooMany) = some false := exm_pair exTooMany icTooMany tyTooMany suBadPriceTooMany
  have emBrokenNoHouse : PySem.W.exmOne K (.ref CBroken) (.ref CNoHouse) = some false := exm_pair exNoHouse icNoHouse tyNoHouse suBrokenNoHouse
  have emBrokenNoTie : PySem.W.exmOne K (.ref CBroken) (.ref CNoTie) = some false := exm_pair exNoTie icNoTie tyNoTie suBrokenNoTie
  have emBrokenTooMany : PySem.W.exmOne K (.ref CBroken) (.ref CTooMany) = some false := exm_pair exTooMany icTooMany tyTooMany suBrokenTooMany
  have emWholeNoHouse : PySem.W.exmOne K (.ref CWhole) (.ref CNoHouse) = some false := exm_pair exNoHouse icNoHouse tyNoHouse suWholeNoHouse
  have emWholeNoTie : PySem.W.exmOne K (.ref CWhole) (.ref CNoTie) = some false := exm_pair exNoTie icNoTie tyNoTie suWholeNoTie
  have emWholeTooMany : PySem.W.exmOne K (.ref CWhole) (.ref CTooMany) = some false := exm_pair exTooMany icTooMany tyTooMany suWholeTooMany
  refine ⟨PySem.W.fnOf "law" "law" (defArgs sLaw) (defBody sLaw) (defScope sLaw) .none kV27 dc27 pm27 an27 (.ref cT) ct27, [(cT, PT), (cU, PU)], spLawT K PT PU, fun p hp => ?_, fun p hp => ?_, fun p hp => ?_, fun s v => .of_eq rfl, fun H a ns hl _ hH hS => ⟨a, ns, rfl, hS, hl, fun p hp => ?_, fun _ => rfl⟩, fun base KB GB hTB => ?_⟩
  · simp only [List.mem_cons, List.not_mem_nil, or_false] at hp
    rcases hp with rfl | rfl
    · exact eP
    · exact eU
  · simp only [List.mem_cons, List.not_mem_nil, or_false] at hp
    rcases hp with rfl | rfl
    · exact nP
    · exact nU
  · simp only [List.mem_cons, List.not_mem_nil, or_false] at hp
    rcases hp with rfl | rfl
    · exact PySem.W.codeHd_of_K X hdP
    · exact PySem.W.codeHd_of_K X hdU
  · simp only [List.mem_cons, List.not_mem_nil, or_false] at hp
    rcases hp with rfl | rfl
    · exact ⟨#[], hH (cT, PT) (by simp), trivial, fun pos cv hc => by cases hc⟩
    · exact ⟨#[], hH (cU, PU) (by simp), trivial, fun pos cv hc => by cases hc⟩
  have TB : LamX.TabB base mg cT PT := hTB (cT, PT) (by simp)
  have TBU : LamX.TabB base mg cU PU := hTB (cU, PU) (by simp)
  have TN : NumT K mg CNumbers fNumbersinit := ⟨gCNumbers, clNumbers, mkNumbers, naNumberslow, naNumbershigh, naNumbersheld⟩
  have TSl : ClsT K mg "Slip" CSlip fSlipinit slipFs := ⟨gCSlip, clSlip, mkSlip, (fun f hf => by simp only [slipFs, List.mem_cons, List.not_mem_nil, or_false] at hf; rcases hf with rfl | rfl | rfl | rfl | rfl | rfl | rfl <;> assumption)⟩
  have TH : ClsT K mg "House" CHouse fHouseinit homeFs := ⟨gCHouse, clHouse, mkHouse, (fun f hf => by simp only [homeFs, List.mem_cons, List.not_mem_nil, or_false] at hf; rcases hf with rfl | rfl | rfl | rfl | rfl | rfl | rfl | rfl <;> assumption)⟩
  have TWb : ClsT K mg "Web" CWeb fWebinit webFs := ⟨gCWeb, clWeb, mkWeb, (fun f hf => by simp only [webFs, List.mem_cons, List.not_mem_nil, or_false] at hf; rcases hf with rfl | rfl | rfl | rfl | rfl <;> assumption)⟩
  have GS : ∀ j, FnOk l.prog w K mg base CX0 (j + 1) fS _ ["self", "word", "why"] (spSlip K) := fun j => ok_slipI (k := j) FS TS
  have XTooMany : ∀ j, ExcC l.prog w K mg base (j + 2) "TooMany" CTooMany fTooMany _ ["self", "bound"] (spIn1 K "bound" "toomany" askInt gotSame) := fun j => ⟨TTooMany, ok_toomanyI (k := j) FTooMany TS (GS j) bS, bTooMany⟩
  have XNoNumber : ∀ j, ExcC l.prog w K mg base (j + 2) "NoNumber" CNoNumber fNoNumber _ ["self"] (spIn0 K "nonumber") := fun j => ⟨TNoNumber, ok_nonumberI (k := j) FNoNumber TS (GS j) bS, bNoNumber⟩
  have XNoHouse : ∀ j, ExcC l.prog w K mg base (j + 2) "NoHouse" CNoHouse fNoHouse _ ["self", "house"] (spIn1 K "house" "nohouse" askInt gotSame) := fun j => ⟨TNoHouse, ok_nohouseI (k := j) FNoHouse TS (GS j) bS, bNoHouse⟩
  have XNoTie : ∀ j, ExcC l.prog w K mg base (j + 2) "NoTie" CNoTie fNoTie _ ["self", "one", "other"] (spIn2 K "one" "other" "notie") := fun j => ⟨TNoTie, ok_notieI (k := j) FNoTie TS (GS j) bS, bNoTie⟩
  have XHasTie : ∀ j, ExcC l.prog w K mg base (j + 2) "HasTie" CHasTie fHasTie _ ["self"] (spIn0 K "hastie") := fun j => ⟨THasTie, ok_hastieI (k := j) FHasTie TS (GS j) bS, bHasTie⟩
  have XBadPrice : ∀ j, ExcC l.prog w K mg base (j + 2) "BadPrice" CBadPrice fBadPrice _ ["self"] (spIn0 K "badprice") := fun j => ⟨TBadPrice, ok_badpriceI (k := j) FBadPrice TS (GS j) bS, bBadPrice⟩
  have XBroken : ∀ j, ExcC l.prog w K mg base (j + 2) "Broken" CBroken fBroken _ ["self"] (spIn0 K "broken") := fun j => ⟨TBroken, ok_brokenI (k := j) FBroken TS (GS j) bS, bBroken⟩
  have XWhole : ∀ j, ExcC l.prog w K mg base (j + 2) "Whole" CWhole fWhole _ ["self"] (spIn0 K "whole") := fun j => ⟨TWhole, ok_wholeI (k := j) FWhole TS (GS j) bS, bWhole⟩
  have cCk : ∀ j, CalX l.prog w K mg base (j + 4) "check_house" _ _ ["many", "house"] (spCheckX CNoHouse) := fun j => ⟨ok_checkX (k := j) Fcheck_house (XNoHouse j) flNoHousehouse, gcheck_house, k14, bcheck_house⟩
  have GCk : ∀ j, FnOk l.prog w K mg base (L2.CX l.prog w) (j + 5) fWebcheck_houses _ ["self", "houses"] (spChecksX (⟨CWeb, CHouse, CNumbers, CSlip⟩ : WebC) CNoHouse) := fun j => ok_checksX (c := (⟨CWeb, CHouse, CNumbers, CSlip⟩ : WebC)) (k := j + 3) FWebcheck_houses T TWb (cCk j)
  have GCT : ∀ j, FnOk l.prog w K mg base (L2.CX l.prog w) (j + 6) fWebcheck_tie _ ["self", "one", "other"] (spCheckT (⟨CWeb, CHouse, CNumbers, CSlip⟩ : WebC) CNoHouse CNoTie) := fun j => ok_checkT (c := (⟨CWeb, CHouse, CNumbers, CSlip⟩ : WebC)) (k := j + 3) FWebcheck_tie TWb MWebcheck_houses (GCk j) bWebcheck_houses (XNoTie (j + 2)) flNoTieone flNoTieother
  have cP2 : ∀ j, Cal l.prog w K mg base (j + 1) "sorted_pair" _ _ ["one", "other"] spPair2 := fun j => ⟨ok_pair2 (k := j) Fsorted_pair T.min m_max, gsorted_pair, k15, bsorted_pair⟩
  have cPr : ∀ j, CalX l.prog w K mg base (j + 4) "check_price" _ _ ["price"] (spPrice CBadPrice) := fun j => ⟨ok_price (k := j + 2) Fcheck_price gMOST_PRICE (XBadPrice j), gcheck_price, k16, bcheck_price⟩
  have GL : ∀ j, FnOk l.prog w K mg base CX0 (j + 1) fHouselive_slip _ ["self", "what"] (spLiveT (⟨CWeb, CHouse, CNumbers, CSlip⟩ : WebC)) := fun j => ok_liveT (c := (⟨CWeb, CHouse, CNumbers, CSlip⟩ : WebC)) (k := j) FHouselive_slip T TH TSl
  have cPL : ∀ j, Cal l.prog w K mg base (j + 1) "put_letter" _ _ ["web", "home", "other", "letter"] (spPutL (⟨CWeb, CHouse, CNumbers, CSlip⟩ : WebC)) := fun j => ⟨ok_putL (c := (⟨CWeb, CHouse, CNumbers, CSlip⟩ : WebC)) (k := j) Fput_letter TWb TH, gput_letter, k17, bput_letter⟩
  have cTS : ∀ j, Cal l.prog w K mg base (j + 3) "tell_slips" _ _ ["web", "home", "other"] (spTellS (⟨CWeb, CHouse, CNumbers, CSlip⟩ : WebC)) := fun j => ⟨ok_tellS (c := (⟨CWeb, CHouse, CNumbers, CSlip⟩ : WebC)) (k := j) Ftell_slips T TWb TH TSl MHouselive_slip (GL (j + 1)) bHouselive_slip (cPL (j + 1)), gtell_slips, k18, btell_slips⟩
  have GB : ∀ j, FnOk l.prog w K mg base (L2.CX l.prog w) (j + 6) fWebbuild _ ["self", "one", "other", "price"] (spBuild (⟨CWeb, CHouse, CNumbers, CSlip⟩ : WebC) CNoHouse CNoTie CHasTie CBadPrice CTooMany) := fun j => ok_build (c := (⟨CWeb, CHouse, CNumbers, CSlip⟩ : WebC)) (k := j + 3) FWebbuild T TWb MWebcheck_houses (GCk j) bWebcheck_houses (cP2 (j + 4)) (cPr (j + 1)) (cTS (j + 2)) (XNoTie (j + 2)) flNoTieone flNoTieother (XHasTie (j + 2)) (XTooMany (j + 2)) flTooManybound gMOST_TIES
  have GG : ∀ j, FnOk l.prog w K mg base (L2.CX l.prog w) (j + 7) fWebcharge _ ["self", "one", "other", "price"] (spCharge (⟨CWeb, CHouse, CNumbers, CSlip⟩ : WebC) CNoHouse CNoTie CBadPrice) := fun j => ok_charge (c := (⟨CWeb, CHouse, CNumbers, CSlip⟩ : WebC)) (k := j + 4) FWebcharge TWb MWebcheck_tie (GCT j) bWebcheck_tie (cP2 (j + 5)) (cPr (j + 2))
  have GSn : ∀ j, FnOk l.prog w K mg base (L2.CX l.prog w) (j + 7) fWebsnap _ ["self", "one", "other"] (spFlip (⟨CWeb, CHouse, CNumbers, CSlip⟩ : WebC) CNoHouse CNoTie CBroken "broken" true) := fun j => ok_snap (c := (⟨CWeb, CHouse, CNumbers, CSlip⟩ : WebC)) (k := j + 4) FWebsnap TWb MWebcheck_tie (GCT j) bWebcheck_tie (cP2 (j + 5)) (XBroken (j + 3))
  have GMe : ∀ j, FnOk l.prog w K mg base (L2.CX l.prog w) (j + 7) fWebmend _ ["self", "one", "other"] (spFlip (⟨CWeb, CHouse, CNumbers, CSlip⟩ : WebC) CNoHouse CNoTie CWhole "whole" false) := fun j => ok_mend (c := (⟨CWeb, CHouse, CNumbers, CSlip⟩ : WebC)) (k := j + 4) FWebmend TWb MWebcheck_tie (GCT j) bWebcheck_tie (cP2 (j + 5)) (XWhole (j + 3))
  have cLH : Cal l.prog w K mg base 6 "lose_holder" _ _ ["web", "home", "slip", "other"] (spLoseH (⟨CWeb, CHouse, CNumbers, CSlip⟩ : WebC)) := ⟨ok_loseH (c := (⟨CWeb, CHouse, CNumbers, CSlip⟩ : WebC)) (k := 4) Flose_holder TSl ⟨ok_letGo (c := (⟨CWeb, CHouse, CNumbers, CSlip⟩ : WebC)) (k := 4) Flet_go TSl, glet_go, k19, blet_go⟩, glose_holder, k20, blose_holder⟩
  have cDT : Cal l.prog w K mg base 6 "drop_tunnels" _ _ ["web", "home", "is_gone"] (spDropT (⟨CWeb, CHouse, CNumbers, CSlip⟩ : WebC)) := ⟨ok_dropT (c := (⟨CWeb, CHouse, CNumbers, CSlip⟩ : WebC)) (k := 5) Fdrop_tunnels T TWb TH, gdrop_tunnels, k21, bdrop_tunnels⟩
  have cDW : Cal l.prog w K mg base 6 "drop_towards" _ _ ["home", "ahead"] (spDropW (⟨CWeb, CHouse, CNumbers, CSlip⟩ : WebC)) := ⟨ok_dropW (c := (⟨CWeb, CHouse, CNumbers, CSlip⟩ : WebC)) (k := 5) Fdrop_towards TH, gdrop_towards, k22, bdrop_towards⟩
  have cTA : Cal l.prog w K mg base 6 "try_all" _ _ ["web", "home"] (spTryA (⟨CWeb, CHouse, CNumbers, CSlip⟩ : WebC)) := ⟨ok_tryA (c := (⟨CWeb, CHouse, CNumbers, CSlip⟩ : WebC)) (k := 3) Ftry_all T TH ⟨ok_tryG (c := (⟨CWeb, CHouse, CNumbers, CSlip⟩ : WebC)) (k := 3) Ftry_goal TH MHouselive_slip (GL 3) bHouselive_slip, gtry_goal, k23, btry_goal⟩, gtry_all, k24, btry_all⟩
  have cGO : Cal l.prog w K mg base 6 "go_on" _ _ ["web", "home"] (spGoOn (⟨CWeb, CHouse, CNumbers, CSlip⟩ : WebC)) := ⟨ok_goOn (c := (⟨CWeb, CHouse, CNumbers, CSlip⟩ : WebC)) (k := 5) Fgo_on TH, ggo_on, k25, bgo_on⟩
  have FLC : FunC K "lose_house" "lose_house" sLoseHouse f26 _ cU := ⟨⟨_, _, _, _, _, _, _, _, rfl, l26, c26⟩⟩
  have cLo : Cal l.prog w K mg base 7 "lose_house" _ _ ["web", "home", "other"] (spLose (⟨CWeb, CHouse, CNumbers, CSlip⟩ : WebC) [(PT, qL), (PU, qU)]) := ⟨ok_lose (c := (⟨CWeb, CHouse, CNumbers, CSlip⟩ : WebC)) (k := 3) FLC TBU (by simp) (fun p hp e => by simp only [List.mem_cons, List.not_mem_nil, or_false] at hp; rcases hp with rfl | rfl; exact absurd e nPU; rfl) ⟨dWH, dNH, dSH⟩ T TWb TH TSl cLH cDT cDW cTA cGO, glose_house, k26, blose_house⟩
  have GCu : FnOk l.prog w K mg base (L2.CX l.prog w) 8 fWebcut _ ["self", "one", "other"] (spCut (⟨CWeb, CHouse, CNumbers, CSlip⟩ : WebC) CNoHouse CNoTie [(PT, qL), (PU, qU)]) := ok_cut (c := (⟨CWeb, CHouse, CNumbers, CSlip⟩ : WebC)) (k := 3) FWebcut TWb MWebcheck_tie (GCT 1) bWebcheck_tie (cP2 6) MWebtunnels (ok_tunnels0 (c := (⟨CWeb, CHouse, CNumbers, CSlip⟩ : WebC)) (k := 6) FWebtunnels T TWb) bWebtunnels cLo
  have kB := kb_build (K := K) FWebbuild
  have kG := kb_charge (K := K) FWebcharge
  obtain ⟨dsB, vB, bB⟩ := b_build (K := K) lWebbuild cWebbuild kfWebbuild kwB
  have cAct : CalX l.prog w K mg base 9 "_law_acted" _ _ ["_law_web", "_law_deed"] (spActed (⟨CWeb, CHouse, CNumbers, CSlip⟩ : WebC) (⟨CNoHouse, CNoTie, CTooMany, CHasTie, CBadPrice, CBroken, CWhole⟩ : XC) [(PT, qL), (PU, qU)]) := ⟨ok_acted (c := (⟨CWeb, CHouse, CNumbers, CSlip⟩ : WebC)) (x := (⟨CNoHouse, CNoTie, CTooMany, CHasTie, CBadPrice, CBroken, CWhole⟩ : XC)) (TL := [(PT, qL), (PU, qU)]) (k := 3) F_law_acted TWb MWebbuild (GB 2) kB MWebcharge (GG 1) kG MWebcut GCu bWebcut MWebsnap (GSn 1) bWebsnap MWebmend (GMe 1) bWebmend, g_law_acted, k11, b_law_acted⟩
  have GSR : FnOk l.prog w K mg base CX0 6 fHouseslip_rows _ ["self"] (spSlipRows (⟨CWeb, CHouse, CNumbers, CSlip⟩ : WebC)) := ok_slipRows (c := (⟨CWeb, CHouse, CNumbers, CSlip⟩ : WebC)) (k := 5) FHouseslip_rows T TH TSl
  have GRo : FnOk l.prog w K mg base CX0 7 fWebrows _ ["self"] (spS (⟨CWeb, CHouse, CNumbers, CSlip⟩ : WebC) ansRows) := ok_W_rows (c := (⟨CWeb, CHouse, CNumbers, CSlip⟩ : WebC)) (k := 5) FWebrows T TWb TH TSl MHouseslip_rows GSR bHouseslip_rows
  have GLn : FnOk l.prog w K mg base CX0 8 fWeblen _ ["self"] (spS (⟨CWeb, CHouse, CNumbers, CSlip⟩ : WebC) fun _ rs H Q => ∀ H', Same H H' → Q (.int (rs.length : Nat)) H') := ok_W_len (c := (⟨CWeb, CHouse, CNumbers, CSlip⟩ : WebC)) (k := 5) FWeblen T TWb TH TSl MWebrows GRo bWebrows
  have GRe : FnOk l.prog w K mg base CX0 10 fWebrepr _ ["self"] (spRepr (⟨CWeb, CHouse, CNumbers, CSlip⟩ : WebC)) := ok_W_repr (c := (⟨CWeb, CHouse, CNumbers, CSlip⟩ : WebC)) (k := 5) FWebrepr T TWb TH TSl atWeblen fnWeblen GLn bWeblen
  have GNI := ok_numI (P := l.prog) (w := w) (base := base) (k := 4) FNumbersinit TN ⟨ok_isrange (k := 4) Fis_range gMOST_ABOVE gMOST_NUMBER, gis_range, k12, bis_range⟩
  have GT := ok_numTake (P := l.prog) (w := w) (base := base) (k := 4) FNumberstake TN T.range (XNoNumber 4)
  have GMS := ok_makeSlip (P := l.prog) (w := w) (base := base) (k := 7) Fmake_slip TWb TH TN TSl MNumberstake GT bNumberstake (ok_slpI (k := 6) FSlipinit TSl) bSlipinit
  have GH := ok_houseI (P := l.prog) (w := w) (base := base) (k := 6) FHouseinit TH TN GNI bNumbersinit
  have GWI := ok_webI (P := l.prog) (w := w) (base := base) (c := (⟨CWeb, CHouse, CNumbers, CSlip⟩ : WebC)) (k := 6) FWebinit T TWb TH gMOST_HOUSES ⟨dWH, dWN, dWS⟩ (XTooMany 6) flTooManybound GH bHouseinit ⟨GMS, gmake_slip, k13, bmake_slip⟩
  have WT : WhyT mg CNoHouse CNoTie CTooMany CNoTunnel CShort CLone CS := ⟨PySem.W.mg_of X G aNoHouse, PySem.W.mg_of X G aNoTie, PySem.W.mg_of X G aTooMany, PySem.W.mg_of X G aNoTunnel, PySem.W.mg_of X G aShort, PySem.W.mg_of X G aLone, PySem.W.mg_of X G aS⟩
  have WFx : WhyF K (⟨CNoHouse, CNoTie, CTooMany, CHasTie, CBadPrice, CBroken, CWhole⟩ : XC) CNoTunnel CShort CLone CS := ⟨emNoHouseNoHouse, emNoTieNoHouse, emNoTieNoTie, emTooManyNoHouse, emTooManyNoTie, emTooManyTooMany, fun C hC => by simp only [List.mem_cons, List.not_mem_nil, or_false] at hC; rcases hC with rfl | rfl | rfl | rfl; exact ⟨⟨emHasTieNoHouse, emHasTieNoTie, emHasTieTooMany, exm_pair exNoTunnel icNoTunnel tyNoTunnel suHasTieNoTunnel, exm_pair exShort icShort tyShort suHasTieShort, exm_pair exLone icLone tyLone suHasTieLone, exm_pair exS icS tyS suHasTieS⟩, THasTie.xf, THasTie.word⟩; exact ⟨⟨emBadPriceNoHouse, emBadPriceNoTie, emBadPriceTooMany, exm_pair exNoTunnel icNoTunnel tyNoTunnel suBadPriceNoTunnel, exm_pair exShort icShort tyShort suBadPriceShort, exm_pair exLone icLone tyLone suBadPriceLone, exm_pair exS icS tyS suBadPriceS⟩, TBadPrice.xf, TBadPrice.word⟩; exact ⟨⟨emBrokenNoHouse, emBrokenNoTie, emBrokenTooMany, exm_pair exNoTunnel icNoTunnel tyNoTunnel suBrokenNoTunnel, exm_pair exShort icShort tyShort suBrokenShort, exm_pair exLone icLone tyLone suBrokenLone, exm_pair exS icS tyS suBrokenS⟩, TBroken.xf, TBroken.word⟩; exact ⟨⟨emWholeNoHouse, emWholeNoTie, emWholeTooMany, exm_pair exNoTunnel icNoTunnel tyNoTunnel suWholeNoTunnel, exm_pair exShort icShort tyShort suWholeShort, exm_pair exLone icLone tyLone suWholeLone, exm_pair exS icS tyS suWholeS⟩, TWhole.xf, TWhole.word⟩, TNoHouse.xf, TNoTie.xf, TTooMany.xf, flNoHousehouse, flNoTieone, flNoTieother, flTooManybound⟩
  exact ok_law (c := (⟨CWeb, CHouse, CNumbers, CSlip⟩ : WebC)) (x := (⟨CNoHouse, CNoTie, CTooMany, CHasTie, CBadPrice, CBroken, CWhole⟩ : XC)) ⟨ok_box (k := 10) F_law_box T.list, g_law_box, k0, b_law_box⟩ ⟨ok_take (k := 10) F_law_take T.len, g_law_take, k1, b_law_take⟩ ⟨ok_rangesL (k := 9) F_law_ranges T ⟨ok_take (k := 9) F_law_take T.len, g_law_take, k1, b_law_take⟩, g_law_ranges, k8, b_law_ranges⟩ ⟨ok_same F_law_same ⟨T.isinstance, T.list, T.tuple, T.bool, T.int, T.str, T.len, T.all, T.zip⟩ g_law_same b_law_same 11, g_law_same, k2, b_law_same⟩ ⟨ok_shuf (k := 9) F_law_shuffled F_law_take g_law_take b_law_take T.len, g_law_shuffled, k7, b_law_shuffled⟩ ⟨ok_pairsD (k := 10) F_law_pairs T.sum T.range, g_law_pairs, k6, b_law_pairs⟩ ⟨ok_deed (k := 8) F_law_tie_deed T m_max ⟨ok_take (k := 9) F_law_take T.len, g_law_take, k1, b_law_take⟩ ⟨ok_ofV (k := 8) F_law_of T ⟨ok_take (k := 8) F_law_take T.len, g_law_take, k1, b_law_take⟩, g_law_of, k4, b_law_of⟩ ⟨ok_wild (k := 8) F_law_wild ⟨ok_take (k := 8) F_law_take T.len, g_law_take, k1, b_law_take⟩, g_law_wild, k5, b_law_wild⟩, g_law_tie_deed, k9, b_law_tie_deed⟩ ⟨ok_refused (k := 10) F_law_refused T T.min m_max, g_law_refused, k10, b_law_refused⟩ cAct MWebties (ok_ties (c := (⟨CWeb, CHouse, CNumbers, CSlip⟩ : WebC)) (k := 10) FWebties T TWb) bWebties MWebbuild (GB 5) bB vB atWebrepr fnWebrepr GRe bWebrepr m_repr T.min m_max l27 c27 T TWb g_law_why k3 l3 c3 b_law_why WT TB nPU WFx GWI bWebinit
end K

/-! facts of the top, told by a Bool of the heap behind it -/
namespace K
open PySem PySem.Spec PyProof.Rows L2
def oexB (K : PySem.W.Frag) (C : Addr) : Bool := match K.lookup C with
  | some ⟨.type c, _, .cls cd, sl⟩ => decide (c = "type") && (match cd.mro, sl.toList with
    | .ref C' :: bm, [_, _, _, _, some (.builtin n), _] => decide (C' = C) && (decide (n = "ValueError.__new__") && (!cd.hasDel && (cd.hasDict && PySem.HandSPX.refsVE bm)))
    | _, _ => false)
  | _ => false
theorem oexB_ok {K : PySem.W.Frag} {C : Addr} (h : oexB K C = true) : ∃ nm q N bs bm sn sub ab col dd k0 k1 k2 k3 k5, K.lookup C = some (excClassObj nm q C N bs bm true sn sub ab col dd k0 k1 k2 k3 k5 "ValueError.__new__") ∧ PySem.HandSPX.refsVE bm = true := by
  unfold oexB at h
  split at h
  · rename_i c dd cd sl ho
    obtain ⟨h1, h2⟩ := He.ba h
    split at h2
    · rename_i C' bm k0 k1 k2 k3 n k5 hm hs
      obtain ⟨h3, h4⟩ := He.ba h2
      obtain ⟨h5, h6⟩ := He.ba h4
      obtain ⟨h7, h8⟩ := He.ba h6
      obtain ⟨h9, h10⟩ := He.ba h8
      obtain ⟨nm, bs, mro, ns, qn, hd, sn, sub, ab, col, del⟩ := cd
      have e1 := of_decide_eq_true h1
      have e3 := of_decide_eq_true h3
      have e5 := of_decide_eq_true h5
      have e7 : del = false := by simpa using h7
      have e9 : hd = true := h9
      have hm : mro = .ref C' :: bm := hm
      have hsl : sl = #[k0, k1, k2, k3, some (.builtin n), k5] := by
        cases sl
        exact congrArg Array.mk hs
      subst e1 e3 e5 e7 e9 hm hsl
      exact ⟨nm, qn, ns, bs, bm, sn, sub, ab, col, dd, k0, k1, k2, k3, k5, ho, h10⟩
    · cases h2
  · cases h
def valB (K : PySem.W.Frag) (c : Value) (x : Str) (v : Value) : Bool := match PySem.W.findCls K c (.type "type") x with
  | some (.val u) => decide (u = v)
  | _ => false
theorem valB_ok {K : PySem.W.Frag} {c v : Value} {x : Str} (h : valB K c x v = true) : PySem.W.findCls K c (.type "type") x = some (.val v) := by
  unfold valB at h
  split at h
  · rename_i u e
    rw [e, of_decide_eq_true h]
  · cases h
def intB (K : PySem.W.Frag) (a : Addr) (x : Str) (i : Int) : Bool := match PySem.W.nsIn K a x with
  | some (some (.int j _)) => decide (j = i)
  | _ => false
theorem intB_ok {K : PySem.W.Frag} {a : Addr} {x : Str} {i : Int} (h : intB K a x i = true) : ∃ t, PySem.W.nsIn K a x = some (some (.int i t)) := by
  unfold intB at h
  split at h
  · rename_i j t e
    rw [of_decide_eq_true h] at e
    exact ⟨t, e⟩
  · cases h
theorem all_at {l : List Bool} (h : l.all id = true) (i : Nat) {b : Bool} (e : l[i]? = some b) : b = true := List.all_eq_true.mp h b (List.mem_of_getElem? e)
section
variable {K : PySem.W.Frag} {x q : Str} {pa : Arguments} {bo : List Stmt} {sc : Scope} {f : Addr} {fd : FuncData}
/-- a def of no default, as the places want it -/
theorem fun_at (h : ∃ fd, FunD K x q pa bo sc [] [] f fd) : ∃ (oc : Value) (od : Option Addr) (kV doc pm : Value) (an : Option Addr) (cdv ct : Value) (osl : Array (Option Value)),
    K.lookup f = some ⟨oc, od, .func (PySem.W.fnOf x q pa bo sc .none kV doc pm an cdv ct), osl⟩ ∧ PySem.W.codeIn K cdv q = true ∧ PySem.W.keepIn K (.ref f) = true := by
  obtain ⟨fd, F⟩ := h
  obtain ⟨oc, od, dV, kV, doc, pm, an, cdv, ct, osl, rfl, lk, hcd, hD, hK⟩ := F.ex
  rcases hD with ⟨_, rfl⟩ | ⟨e, _⟩
  · exact ⟨oc, od, kV, doc, pm, an, cdv, ct, osl, lk, hcd, F.kp⟩
  · exact absurd rfl e
/-- .. of one keyword-only default -/
theorem fun_kw {k : Str} {i : Int} (h : ∃ fd, FunD K x q pa bo sc [] [(k, V.int i)] f fd) : ∃ (oc : Value) (od : Option Addr) (D : Addr) (doc pm : Value) (an : Option Addr) (cdv ct : Value) (osl : Array (Option Value)) (t : Tok),
    K.lookup f = some ⟨oc, od, .func (PySem.W.fnOf x q pa bo sc .none (.ref D) doc pm an cdv ct), osl⟩ ∧ PySem.W.codeIn K cdv q = true ∧ PySem.W.keepIn K (.ref f) = true ∧ PySem.W.nsIn K D k = some (some (.int i t)) := by
  obtain ⟨fd, F⟩ := h
  obtain ⟨oc, od, dV, kV, doc, pm, an, cdv, ct, osl, rfl, lk, hcd, hD, hK⟩ := F.ex
  rcases hD with ⟨_, rfl⟩ | ⟨e, _⟩
  · rcases hK with e | ⟨D, rfl, hq⟩
    · cases e
    · obtain ⟨u, e1, t, rfl⟩ := hq (k, V.int i) (by simp)
      exact ⟨oc, od, D, doc, pm, an, cdv, ct, osl, t, lk, hcd, F.kp, e1⟩
  · exact absurd rfl e
/-- .. of two texts as defaults -/
theorem fun_strs {a b : Str} (h : ∃ fd, FunD K x q pa bo sc [V.str a, V.str b] [] f fd) : ∃ (oc : Value) (od : Option Addr) (TD : Addr) (kV doc pm : Value) (an : Option Addr) (cdv ct : Value) (osl : Array (Option Value)) (ocT : Value) (odT : Option Addr) (t1 t2 : Tok) (nT : Nat) (slT : Array (Option Value)),
    K.lookup f = some ⟨oc, od, .func (PySem.W.fnOf x q pa bo sc (.ref TD) kV doc pm an cdv ct), osl⟩ ∧ PySem.W.codeIn K cdv q = true ∧ PySem.W.keepIn K (.ref f) = true ∧ K.lookup TD = some ⟨ocT, odT, .seq #[.str a t1, .str b t2] nT, slT⟩ := by
  obtain ⟨fd, F⟩ := h
  obtain ⟨oc, od, dV, kV, doc, pm, an, cdv, ct, osl, rfl, lk, hcd, hD, hK⟩ := F.ex
  rcases hD with ⟨e, _⟩ | ⟨_, T, o, its, n, rfl, lT, oT, rT⟩
  · cases e
  · obtain ⟨ocT, odT, dt, slT⟩ := o
    have oT : dt = .seq its.toArray n := oT
    subst oT
    match its, rT with
    | [_, _], .cons ⟨t1, rfl⟩ (.cons ⟨t2, rfl⟩ .nil) => exact ⟨oc, od, T, kV, doc, pm, an, cdv, ct, osl, ocT, odT, t1, t2, n, slT, lk, hcd, F.kp, lT⟩
end
/-! the hook: the first n places of the heap -/
section
variable (fn : List He.DefD) (tf : List He.Defn) (ex : PySem.W.Frag → Bool)
def seenK (n : Nat) (g : Addr → Option Obj) : PySem.W.Frag := He.frT g (List.range n)
def lookK (n : Nat) (g : Addr → Option Obj) : He.AlX := ⟨He.obsT [] fn [] (seenK n g), ex (seenK n g) && He.tabsB g tf (seenK n g)⟩
theorem lookK_ok {n : Nat} {w : World} {h : Heap} (q : lookK fn tf ex n h.get? = He.valX fn [] w) : He.SaysX [] fn [] tf ex w h (seenK n h.get?) := by
  have q1 : He.obsT [] fn [] (seenK n h.get?) = He.valT fn [] w := (Prod.ext_iff.mp q).1
  have q2 : (ex (seenK n h.get?) && He.tabsB h.get? tf (seenK n h.get?)) = true := (Prod.ext_iff.mp q).2
  rw [Bool.and_eq_true] at q2
  have tab : ∀ d ∈ tf, PySem.W.codeHdIn (seenK n h.get?) (He.cT (seenK n h.get?) d).1 (He.cT (seenK n h.get?) d).2 = true ∧ ∃ o, h.get? (He.cT (seenK n h.get?) d).2 = some o ∧ He.emptyTab o = true := by
    intro d md
    have z := List.all_eq_true.mp q2.2 d md
    rw [Bool.and_eq_true] at z
    refine ⟨z.1, ?_⟩
    have z2 := z.2
    split at z2
    · rename_i o eo
      exact ⟨o, eo, z2⟩
    · cases z2
  constructor
  · exact q1
  · exact q2.1
  · exact fun d md => (tab d md).1
  · intro d md
    obtain ⟨_, o, eo, em⟩ := tab d md
    exact He.frT_none eo em
  · intro d md
    obtain ⟨_, o, eo, em⟩ := tab d md
    rw [eo, He.emptyTab_eq em]
def hookK (n : Nat) : PySem.W.Hook :=
  { α := He.AlX, obs := fun s => lookK fn tf ex n s.heap.get?, val := fun w => He.valX fn [] w,
    says := fun w h => ∃ K : PySem.W.Frag, K.In h ∧ He.SaysX [] fn [] tf ex w h K,
    of := fun _ _ q => ⟨seenK n _, He.frT_in, lookK_ok fn tf ex q⟩,
    keeps := fun _ _ _ p keep => by
      obtain ⟨K, inn, c⟩ := p
      exact ⟨K, PySem.W.Frag.In.keeps inn keep, c.t, c.more, c.hd, c.out, fun d md => keep _ _ (c.empty d md)⟩ }
theorem lookK_eq {n : Nat} {g : Addr → Option Obj} {s : Shared} (e : ∀ a, g a = s.heap.get? a) : lookK fn tf ex n g = (hookK fn tf ex n).obs s := by
  obtain rfl : g = s.heap.get? := funext e
  rfl
end
end K

set_option maxHeartbeats 0
namespace KH
open PySem PySem.Spec PyProof.Rows L2 K
def d0 : He.DefD := ⟨("_law_box", none), "_law_box", "_law_box", defArgs sBox, defBody sBox, defScope sBox, [], []⟩
def d1 : He.DefD := ⟨("_law_take", none), "_law_take", "_law_take", defArgs sTake, defBody sTake, defScope sTake, [], []⟩
def d2 : He.DefD := ⟨("_law_same", none), "_law_same", "_law_same", defArgs sSame, defBody sSame, defScope sSame, [], []⟩
def d3 : He.DefD := ⟨("_law_why", none), "_law_why", "_law_why", defArgs sWhy, defBody sWhy, defScope sWhy, [], []⟩
def d4 : He.DefD := ⟨("_law_of", none), "_law_of", "_law_of", defArgs sOf, defBody sOf, defScope sOf, [], []⟩
def d5 : He.DefD := ⟨("_law_wild", none), "_law_wild", "_law_wild", defArgs sWild, defBody sWild, defScope sWild, [], []⟩
def d6 : He.DefD := ⟨("_law_pairs", none), "_law_pairs", "_law_pairs", defArgs sPairs, defBody sPairs, defScope sPairs, [], []⟩
def d7 : He.DefD := ⟨("_law_shuffled", none), "_law_shuffled", "_law_shuffled", defArgs sShuf, defBody sShuf, defScope sShuf, [], []⟩
def d8 : He.DefD := ⟨("_law_ranges", none), "_law_ranges", "_law_ranges", defArgs sRangesL, defBody sRangesL, defScope sRangesL, [], []⟩
def d9 : He.DefD := ⟨("_law_tie_deed", none), "_law_tie_deed", "_law_tie_deed", defArgs sDeed, defBody sDeed, defScope sDeed, [], []⟩
def d10 : He.DefD := ⟨("_law_refused", none), "_law_refused", "_law_refused", defArgs sRefused, defBody sRefused, defScope sRefused, [], []⟩
def d11 : He.DefD := ⟨("_law_acted", none), "_law_acted", "_law_acted", defArgs sActed, defBody sActed, defScope sActed, [], []⟩
def d12 : He.DefD := ⟨("is_range", none), "is_range", "is_range", defArgs sIsRange, defBody sIsRange, defScope sIsRange, [], []⟩
def d13 : He.DefD := ⟨("make_slip", none), "make_slip", "make_slip", defArgs sMakeSlip, defBody sMakeSlip, defScope sMakeSlip, [], []⟩
def d14 : He.DefD := ⟨("check_house", none), "check_house", "check_house", defArgs sCheck, defBody sCheck, defScope sCheck, [], []⟩
def d15 : He.DefD := ⟨("sorted_pair", none), "sorted_pair", "sorted_pair", defArgs sPair2, defBody sPair2, defScope sPair2, [], []⟩
def d16 : He.DefD := ⟨("check_price", none), "check_price", "check_price", defArgs sPrice, defBody sPrice, defScope sPrice, [], []⟩
def d17 : He.DefD := ⟨("put_letter", none), "put_letter", "put_letter", defArgs sPutL, defBody sPutL, defScope sPutL, [], []⟩
def d18 : He.DefD := ⟨("tell_slips", none), "tell_slips", "tell_slips", defArgs sTellS, defBody sTellS, defScope sTellS, [], []⟩
def d19 : He.DefD := ⟨("let_go", none), "let_go", "let_go", defArgs sLetGo, defBody sLetGo, defScope sLetGo, [], []⟩
def d20 : He.DefD := ⟨("lose_holder", none), "lose_holder", "lose_holder", defArgs sLoseH, defBody sLoseH, defScope sLoseH, [], []⟩
def d21 : He.DefD := ⟨("drop_tunnels", none), "drop_tunnels", "drop_tunnels", defArgs sDropT, defBody sDropT, defScope sDropT, [], []⟩
def d22 : He.DefD := ⟨("drop_towards", none), "drop_towards", "drop_towards", defArgs sDropW, defBody sDropW, defScope sDropW, [], []⟩
def d23 : He.DefD := ⟨("try_goal", none), "try_goal", "try_goal", defArgs sTryG, defBody sTryG, defScope sTryG, [], []⟩
def d24 : He.DefD := ⟨("try_all", none), "try_all", "try_all", defArgs sTryA, defBody sTryA, defScope sTryA, [], []⟩
def d25 : He.DefD := ⟨("go_on", none), "go_on", "go_on", defArgs sGoOn, defBody sGoOn, defScope sGoOn, [], []⟩
def d26 : He.DefD := ⟨("lose_house", none), "lose_house", "lose_house", defArgs sLoseHouse, defBody sLoseHouse, defScope sLoseHouse, [], []⟩
def d27 : He.DefD := ⟨("law", none), "law", "law", defArgs sLaw, defBody sLaw, defScope sLaw, [], []⟩
def d28 : He.DefD := ⟨("SlipError", some "__init__"), "__init__", "SlipError.__init__", defArgs sSlipI, defBody sSlipI, defScope sSlipI, [.str "sliperror", .str "refused"], []⟩
def d29 : He.DefD := ⟨("TooMany", some "__init__"), "__init__", "TooMany.__init__", defArgs sTooManyI, defBody sTooManyI, defScope sTooManyI, [], []⟩
def d30 : He.DefD := ⟨("NoNumber", some "__init__"), "__init__", "NoNumber.__init__", defArgs sNoNumberI, defBody sNoNumberI, defScope sNoNumberI, [], []⟩
def d31 : He.DefD := ⟨("NoHouse", some "__init__"), "__init__", "NoHouse.__init__", defArgs sNoHouseI, defBody sNoHouseI, defScope sNoHouseI, [], []⟩
def d32 : He.DefD := ⟨("NoTie", some "__init__"), "__init__", "NoTie.__init__", defArgs sNoTieI, defBody sNoTieI, defScope sNoTieI, [], []⟩
def d33 : He.DefD := ⟨("HasTie", some "__init__"), "__init__", "HasTie.__init__", defArgs sHasTieI, defBody sHasTieI, defScope sHasTieI, [], []⟩
def d34 : He.DefD := ⟨("BadPrice", some "__init__"), "__init__", "BadPrice.__init__", defArgs sBadPriceI, defBody sBadPriceI, defScope sBadPriceI, [], []⟩
def d35 : He.DefD := ⟨("Broken", some "__init__"), "__init__", "Broken.__init__", defArgs sBrokenI, defBody sBrokenI, defScope sBrokenI, [], []⟩
def d36 : He.DefD := ⟨("Whole", some "__init__"), "__init__", "Whole.__init__", defArgs sWholeI, defBody sWholeI, defScope sWholeI, [], []⟩
def d37 : He.DefD := ⟨("Numbers", some "__init__"), "__init__", "Numbers.__init__", defArgs sNumI, defBody sNumI, defScope sNumI, [], []⟩
def d38 : He.DefD := ⟨("Numbers", some "take"), "take", "Numbers.take", defArgs sNumTake, defBody sNumTake, defScope sNumTake, [], []⟩
def d39 : He.DefD := ⟨("Slip", some "__init__"), "__init__", "Slip.__init__", defArgs sSlpI, defBody sSlpI, defScope sSlpI, [], []⟩
def d40 : He.DefD := ⟨("House", some "__init__"), "__init__", "House.__init__", defArgs sHouseI, defBody sHouseI, defScope sHouseI, [], []⟩
def d41 : He.DefD := ⟨("House", some "live_slip"), "live_slip", "House.live_slip", defArgs sLiveSlip, defBody sLiveSlip, defScope sLiveSlip, [], []⟩
def d42 : He.DefD := ⟨("House", some "slip_rows"), "slip_rows", "House.slip_rows", defArgs sSlipRows, defBody sSlipRows, defScope sSlipRows, [], []⟩
def d43 : He.DefD := ⟨("Web", some "__init__"), "__init__", "Web.__init__", defArgs sW_init, defBody sW_init, defScope sW_init, [], []⟩
def d44 : He.DefD := ⟨("Web", some "__len__"), "__len__", "Web.__len__", defArgs sW_len, defBody sW_len, defScope sW_len, [], []⟩
def d45 : He.DefD := ⟨("Web", some "__repr__"), "__repr__", "Web.__repr__", defArgs sW_repr, defBody sW_repr, defScope sW_repr, [], []⟩
def d46 : He.DefD := ⟨("Web", some "check_houses"), "check_houses", "Web.check_houses", defArgs sW_checks, defBody sW_checks, defScope sW_checks, [], []⟩
def d47 : He.DefD := ⟨("Web", some "check_tie"), "check_tie", "Web.check_tie", defArgs sW_checkT, defBody sW_checkT, defScope sW_checkT, [], []⟩
def d48 : He.DefD := ⟨("Web", some "build"), "build", "Web.build", defArgs sW_build, defBody sW_build, defScope sW_build, [], [("price", .int 1)]⟩
def d49 : He.DefD := ⟨("Web", some "cut"), "cut", "Web.cut", defArgs sW_cut, defBody sW_cut, defScope sW_cut, [], []⟩
def d50 : He.DefD := ⟨("Web", some "snap"), "snap", "Web.snap", defArgs sW_snap, defBody sW_snap, defScope sW_snap, [], []⟩
def d51 : He.DefD := ⟨("Web", some "mend"), "mend", "Web.mend", defArgs sW_mend, defBody sW_mend, defScope sW_mend, [], []⟩
def d52 : He.DefD := ⟨("Web", some "charge"), "charge", "Web.charge", defArgs sW_charge, defBody sW_charge, defScope sW_charge, [], []⟩
def d53 : He.DefD := ⟨("Web", some "ties"), "ties", "Web.ties", defArgs sW_ties, defBody sW_ties, defScope sW_ties, [], []⟩
def d54 : He.DefD := ⟨("Web", some "rows"), "rows", "Web.rows", defArgs sW_rows, defBody sW_rows, defScope sW_rows, [], []⟩
def d55 : He.DefD := ⟨("Web", some "tunnels"), "tunnels", "Web.tunnels", defArgs sW_tunnels, defBody sW_tunnels, defScope sW_tunnels, [], []⟩
def fn : List He.DefD := [d0, d1, d2, d3, d4, d5, d6, d7, d8, d9, d10, d11, d12, d13, d14, d15, d16, d17, d18, d19, d20, d21, d22, d23, d24, d25, d26, d27, d28, d29, d30, d31, d32, d33, d34, d35, d36, d37, d38, d39, d40, d41, d42, d43, d44, d45, d46, d47, d48, d49, d50, d51, d52, d53, d54, d55]
def fb0 (K : PySem.W.Frag) : List Bool := [decide (PySem.W.nsIn K mainGlobals "_law_box" = some (some (.ref (He.ga K "_law_box")))),
  decide (PySem.W.nsIn K mainGlobals "_law_take" = some (some (.ref (He.ga K "_law_take")))),
  decide (PySem.W.nsIn K mainGlobals "_law_same" = some (some (.ref (He.ga K "_law_same")))),
  decide (PySem.W.nsIn K mainGlobals "_law_why" = some (some (.ref (He.ga K "_law_why")))),
  decide (PySem.W.nsIn K mainGlobals "_law_of" = some (some (.ref (He.ga K "_law_of")))),
  decide (PySem.W.nsIn K mainGlobals "_law_wild" = some (some (.ref (He.ga K "_law_wild")))),
  decide (PySem.W.nsIn K mainGlobals "_law_pairs" = some (some (.ref (He.ga K "_law_pairs")))),
  decide (PySem.W.nsIn K mainGlobals "_law_shuffled" = some (some (.ref (He.ga K "_law_shuffled")))),
  decide (PySem.W.nsIn K mainGlobals "_law_ranges" = some (some (.ref (He.ga K "_law_ranges")))),
  decide (PySem.W.nsIn K mainGlobals "_law_tie_deed" = some (some (.ref (He.ga K "_law_tie_deed")))),
  decide (PySem.W.nsIn K mainGlobals "_law_refused" = some (some (.ref (He.ga K "_law_refused")))),
  decide (PySem.W.nsIn K mainGlobals "_law_acted" = some (some (.ref (He.ga K "_law_acted")))),
  decide (PySem.W.nsIn K mainGlobals "is_range" = some (some (.ref (He.ga K "is_range")))),
  decide (PySem.W.nsIn K mainGlobals "make_slip" = some (some (.ref (He.ga K "make_slip")))),
  decide (PySem.W.nsIn K mainGlobals "check_house" = some (some (.ref (He.ga K "check_house")))),
  decide (PySem.W.nsIn K mainGlobals "sorted_pair" = some (some (.ref (He.ga K "sorted_pair")))),
  decide (PySem.W.nsIn K mainGlobals "check_price" = some (some (.ref (He.ga K "check_price")))),
  decide (PySem.W.nsIn K mainGlobals "put_letter" = some (some (.ref (He.ga K "put_letter")))),
  decide (PySem.W.nsIn K mainGlobals "tell_slips" = some (some (.ref (He.ga K "tell_slips")))),
  decide (PySem.W.nsIn K mainGlobals "let_go" = some (some (.ref (He.ga K "let_go")))),
  decide (PySem.W.nsIn K mainGlobals "lose_holder" = some (some (.ref (He.ga K "lose_holder")))),
  decide (PySem.W.nsIn K mainGlobals "drop_tunnels" = some (some (.ref (He.ga K "drop_tunnels")))),
  decide (PySem.W.nsIn K mainGlobals "drop_towards" = some (some (.ref (He.ga K "drop_towards")))),
  decide (PySem.W.nsIn K mainGlobals "try_goal" = some (some (.ref (He.ga K "try_goal")))),
  decide (PySem.W.nsIn K mainGlobals "try_all" = some (some (.ref (He.ga K "try_all")))),
  decide (PySem.W.nsIn K mainGlobals "go_on" = some (some (.ref (He.ga K "go_on")))),
  decide (PySem.W.nsIn K mainGlobals "lose_house" = some (some (.ref (He.ga K "lose_house")))),
  decide (PySem.W.nsIn K mainGlobals "law" = some (some (.ref (He.ga K "law")))),
  decide (PySem.W.nsIn K mainGlobals "SlipError" = some (some (.ref (He.ga K "SlipError")))),
  decide (PySem.W.readsIn K (He.ga K "SlipError") (.type "type") = true),
  decide (PySem.W.specialIn K (.ref (He.ga K "SlipError")) "__getattribute__" = some (some (.builtin "type.__getattribute__"))),
  _root_.K.valB K (.ref (He.ga K "SlipError")) "__init__" (.ref (He.ma K (He.ga K "SlipError") "__init__")),
  _root_.K.valB K (.type "ValueError") "__init__" (.builtin "ValueError.__init__"),
  decide (PySem.W.nsIn K mainGlobals "ValueError" = some none),
  decide (PySem.W.nsIn K mainGlobals "TooMany" = some (some (.ref (He.ga K "TooMany")))),
  _root_.K.oexB K (He.ga K "TooMany"),
  decide (PySem.W.findIn K (.ref (He.ga K "TooMany")) "__setattr__" = some (some (.builtin "object.__setattr__"))),
  decide (PySem.W.subIn K (.ref (He.ga K "TooMany")) (.type "BaseException") = some true),
  decide (PySem.W.typeIn K (.ref (He.ga K "TooMany")) = some (.type "type")),
  decide (PySem.W.keepIn K (.ref (He.ga K "TooMany")) = true)]
def fb1 (K : PySem.W.Frag) : List Bool := [decide (PySem.W.findIn K (.ref (He.ga K "TooMany")) "__getattribute__" = some (some (.builtin "BaseException.__getattribute__"))),
  decide (PySem.W.findIn K (.ref (He.ga K "TooMany")) "__getattr__" = some none),
  decide (PySem.W.hasDictIn K (He.ga K "TooMany") = true),
  decide (PySem.W.findIn K (.ref (He.ga K "TooMany")) "__init__" = some (some (.ref (He.ma K (He.ga K "TooMany") "__init__")))),
  decide (PySem.W.typeIn K (.ref (He.ma K (He.ga K "TooMany") "__init__")) = some (.type "function")),
  decide (PySem.W.findIn K (.ref (He.ga K "TooMany")) "word" = some none),
  decide (PySem.W.findIn K (.ref (He.ga K "TooMany")) "bound" = some none),
  decide (PySem.W.isClsIn K (He.ga K "TooMany") = true),
  decide (PySem.W.nsIn K mainGlobals "NoNumber" = some (some (.ref (He.ga K "NoNumber")))),
  _root_.K.oexB K (He.ga K "NoNumber"),
  decide (PySem.W.findIn K (.ref (He.ga K "NoNumber")) "__setattr__" = some (some (.builtin "object.__setattr__"))),
  decide (PySem.W.subIn K (.ref (He.ga K "NoNumber")) (.type "BaseException") = some true),
  decide (PySem.W.typeIn K (.ref (He.ga K "NoNumber")) = some (.type "type")),
  decide (PySem.W.keepIn K (.ref (He.ga K "NoNumber")) = true),
  decide (PySem.W.findIn K (.ref (He.ga K "NoNumber")) "__getattribute__" = some (some (.builtin "BaseException.__getattribute__"))),
  decide (PySem.W.findIn K (.ref (He.ga K "NoNumber")) "__getattr__" = some none),
  decide (PySem.W.hasDictIn K (He.ga K "NoNumber") = true),
  decide (PySem.W.findIn K (.ref (He.ga K "NoNumber")) "__init__" = some (some (.ref (He.ma K (He.ga K "NoNumber") "__init__")))),
  decide (PySem.W.typeIn K (.ref (He.ma K (He.ga K "NoNumber") "__init__")) = some (.type "function")),
  decide (PySem.W.findIn K (.ref (He.ga K "NoNumber")) "word" = some none),
  decide (PySem.W.isClsIn K (He.ga K "NoNumber") = true),
  decide (PySem.W.nsIn K mainGlobals "NoHouse" = some (some (.ref (He.ga K "NoHouse")))),
  _root_.K.oexB K (He.ga K "NoHouse"),
  decide (PySem.W.findIn K (.ref (He.ga K "NoHouse")) "__setattr__" = some (some (.builtin "object.__setattr__"))),
  decide (PySem.W.subIn K (.ref (He.ga K "NoHouse")) (.type "BaseException") = some true),
  decide (PySem.W.typeIn K (.ref (He.ga K "NoHouse")) = some (.type "type")),
  decide (PySem.W.keepIn K (.ref (He.ga K "NoHouse")) = true),
  decide (PySem.W.findIn K (.ref (He.ga K "NoHouse")) "__getattribute__" = some (some (.builtin "BaseException.__getattribute__"))),
  decide (PySem.W.findIn K (.ref (He.ga K "NoHouse")) "__getattr__" = some none),
  decide (PySem.W.hasDictIn K (He.ga K "NoHouse") = true),
  decide (PySem.W.findIn K (.ref (He.ga K "NoHouse")) "__init__" = some (some (.ref (He.ma K (He.ga K "NoHouse") "__init__")))),
  decide (PySem.W.typeIn K (.ref (He.ma K (He.ga K "NoHouse") "__init__")) = some (.type "function")),
  decide (PySem.W.findIn K (.ref (He.ga K "NoHouse")) "word" = some none),
  decide (PySem.W.findIn K (.ref (He.ga K "NoHouse")) "house" = some none),
  decide (PySem.W.isClsIn K (He.ga K "NoHouse") = true),
  decide (PySem.W.nsIn K mainGlobals "NoTie" = some (some (.ref (He.ga K "NoTie")))),
  _root_.K.oexB K (He.ga K "NoTie"),
  decide (PySem.W.findIn K (.ref (He.ga K "NoTie")) "__setattr__" = some (some (.builtin "object.__setattr__"))),
  decide (PySem.W.subIn K (.ref (He.ga K "NoTie")) (.type "BaseException") = some true),
  decide (PySem.W.typeIn K (.ref (He.ga K "NoTie")) = some (.type "type"))]
def fb2 (K : PySem.W.Frag) : List Bool := [decide (PySem.W.keepIn K (.ref (He.ga K "NoTie")) = true),
  decide (PySem.W.findIn K (.ref (He.ga K "NoTie")) "__getattribute__" = some (some (.builtin "BaseException.__getattribute__"))),
  decide (PySem.W.findIn K (.ref (He.ga K "NoTie")) "__getattr__" = some none),
  decide (PySem.W.hasDictIn K (He.ga K "NoTie") = true),
  decide (PySem.W.findIn K (.ref (He.ga K "NoTie")) "__init__" = some (some (.ref (He.ma K (He.ga K "NoTie") "__init__")))),
  decide (PySem.W.typeIn K (.ref (He.ma K (He.ga K "NoTie") "__init__")) = some (.type "function")),
  decide (PySem.W.findIn K (.ref (He.ga K "NoTie")) "word" = some none),
  decide (PySem.W.findIn K (.ref (He.ga K "NoTie")) "one" = some none),
  decide (PySem.W.findIn K (.ref (He.ga K "NoTie")) "other" = some none),
  decide (PySem.W.isClsIn K (He.ga K "NoTie") = true),
  decide (PySem.W.nsIn K mainGlobals "HasTie" = some (some (.ref (He.ga K "HasTie")))),
  _root_.K.oexB K (He.ga K "HasTie"),
  decide (PySem.W.findIn K (.ref (He.ga K "HasTie")) "__setattr__" = some (some (.builtin "object.__setattr__"))),
  decide (PySem.W.subIn K (.ref (He.ga K "HasTie")) (.type "BaseException") = some true),
  decide (PySem.W.typeIn K (.ref (He.ga K "HasTie")) = some (.type "type")),
  decide (PySem.W.keepIn K (.ref (He.ga K "HasTie")) = true),
  decide (PySem.W.findIn K (.ref (He.ga K "HasTie")) "__getattribute__" = some (some (.builtin "BaseException.__getattribute__"))),
  decide (PySem.W.findIn K (.ref (He.ga K "HasTie")) "__getattr__" = some none),
  decide (PySem.W.hasDictIn K (He.ga K "HasTie") = true),
  decide (PySem.W.findIn K (.ref (He.ga K "HasTie")) "__init__" = some (some (.ref (He.ma K (He.ga K "HasTie") "__init__")))),
  decide (PySem.W.typeIn K (.ref (He.ma K (He.ga K "HasTie") "__init__")) = some (.type "function")),
  decide (PySem.W.findIn K (.ref (He.ga K "HasTie")) "word" = some none),
  decide (PySem.W.isClsIn K (He.ga K "HasTie") = true),
  decide (PySem.W.nsIn K mainGlobals "BadPrice" = some (some (.ref (He.ga K "BadPrice")))),
  _root_.K.oexB K (He.ga K "BadPrice"),
  decide (PySem.W.findIn K (.ref (He.ga K "BadPrice")) "__setattr__" = some (some (.builtin "object.__setattr__"))),
  decide (PySem.W.subIn K (.ref (He.ga K "BadPrice")) (.type "BaseException") = some true),
  decide (PySem.W.typeIn K (.ref (He.ga K "BadPrice")) = some (.type "type")),
  decide (PySem.W.keepIn K (.ref (He.ga K "BadPrice")) = true),
  decide (PySem.W.findIn K (.ref (He.ga K "BadPrice")) "__getattribute__" = some (some (.builtin "BaseException.__getattribute__"))),
  decide (PySem.W.findIn K (.ref (He.ga K "BadPrice")) "__getattr__" = some none),
  decide (PySem.W.hasDictIn K (He.ga K "BadPrice") = true),
  decide (PySem.W.findIn K (.ref (He.ga K "BadPrice")) "__init__" = some (some (.ref (He.ma K (He.ga K "BadPrice") "__init__")))),
  decide (PySem.W.typeIn K (.ref (He.ma K (He.ga K "BadPrice") "__init__")) = some (.type "function")),
  decide (PySem.W.findIn K (.ref (He.ga K "BadPrice")) "word" = some none),
  decide (PySem.W.isClsIn K (He.ga K "BadPrice") = true),
  decide (PySem.W.nsIn K mainGlobals "Broken" = some (some (.ref (He.ga K "Broken")))),
  _root_.K.oexB K (He.ga K "Broken"),
  decide (PySem.W.findIn K (.ref (He.ga K "Broken")) "__setattr__" = some (some (.builtin "object.__setattr__"))),
  decide (PySem.W.subIn K (.ref (He.ga K "Broken")) (.type "BaseException") = some true)]
def fb3 (K : PySem.W.Frag) : List Bool := [decide (PySem.W.typeIn K (.ref (He.ga K "Broken")) = some (.type "type")),
  decide (PySem.W.keepIn K (.ref (He.ga K "Broken")) = true),
  decide (PySem.W.findIn K (.ref (He.ga K "Broken")) "__getattribute__" = some (some (.builtin "BaseException.__getattribute__"))),
  decide (PySem.W.findIn K (.ref (He.ga K "Broken")) "__getattr__" = some none),
  decide (PySem.W.hasDictIn K (He.ga K "Broken") = true),
  decide (PySem.W.findIn K (.ref (He.ga K "Broken")) "__init__" = some (some (.ref (He.ma K (He.ga K "Broken") "__init__")))),
  decide (PySem.W.typeIn K (.ref (He.ma K (He.ga K "Broken") "__init__")) = some (.type "function")),
  decide (PySem.W.findIn K (.ref (He.ga K "Broken")) "word" = some none),
  decide (PySem.W.isClsIn K (He.ga K "Broken") = true),
  decide (PySem.W.nsIn K mainGlobals "Whole" = some (some (.ref (He.ga K "Whole")))),
  _root_.K.oexB K (He.ga K "Whole"),
  decide (PySem.W.findIn K (.ref (He.ga K "Whole")) "__setattr__" = some (some (.builtin "object.__setattr__"))),
  decide (PySem.W.subIn K (.ref (He.ga K "Whole")) (.type "BaseException") = some true),
  decide (PySem.W.typeIn K (.ref (He.ga K "Whole")) = some (.type "type")),
  decide (PySem.W.keepIn K (.ref (He.ga K "Whole")) = true),
  decide (PySem.W.findIn K (.ref (He.ga K "Whole")) "__getattribute__" = some (some (.builtin "BaseException.__getattribute__"))),
  decide (PySem.W.findIn K (.ref (He.ga K "Whole")) "__getattr__" = some none),
  decide (PySem.W.hasDictIn K (He.ga K "Whole") = true),
  decide (PySem.W.findIn K (.ref (He.ga K "Whole")) "__init__" = some (some (.ref (He.ma K (He.ga K "Whole") "__init__")))),
  decide (PySem.W.typeIn K (.ref (He.ma K (He.ga K "Whole") "__init__")) = some (.type "function")),
  decide (PySem.W.findIn K (.ref (He.ga K "Whole")) "word" = some none),
  decide (PySem.W.isClsIn K (He.ga K "Whole") = true),
  decide (PySem.W.nsIn K mainGlobals "Numbers" = some (some (.ref (He.ga K "Numbers")))),
  decide (PySem.W.plainGet K (He.ga K "Numbers") Str.empty = true),
  decide (PySem.W.hasDictIn K (He.ga K "Numbers") = true),
  decide (PySem.W.plainOver K (He.ga K "Numbers") = true),
  decide (PySem.W.findIn K (.ref (He.ga K "Numbers")) "__setattr__" = some (some (.builtin "object.__setattr__"))),
  decide (PySem.W.makesIn K (He.ga K "Numbers") = true),
  decide (PySem.W.keepIn K (.ref (He.ga K "Numbers")) = true),
  decide (PySem.W.findIn K (.ref (He.ga K "Numbers")) "__init__" = some (some (.ref (He.ma K (He.ga K "Numbers") "__init__")))),
  decide (PySem.W.isFn K (.ref (He.ma K (He.ga K "Numbers") "__init__")) = true),
  decide (PySem.W.findIn K (.ref (He.ga K "Numbers")) "take" = some (some (.ref (He.ma K (He.ga K "Numbers") "take")))),
  decide (PySem.W.isFn K (.ref (He.ma K (He.ga K "Numbers") "take")) = true),
  decide (PySem.W.findIn K (.ref (He.ga K "Numbers")) "low" = some none),
  decide (PySem.W.findIn K (.ref (He.ga K "Numbers")) "high" = some none),
  decide (PySem.W.findIn K (.ref (He.ga K "Numbers")) "held" = some none),
  decide (PySem.W.nsIn K mainGlobals "Slip" = some (some (.ref (He.ga K "Slip")))),
  decide (PySem.W.plainGet K (He.ga K "Slip") Str.empty = true),
  decide (PySem.W.hasDictIn K (He.ga K "Slip") = true),
  decide (PySem.W.plainOver K (He.ga K "Slip") = true)]
def fb4 (K : PySem.W.Frag) : List Bool := [decide (PySem.W.findIn K (.ref (He.ga K "Slip")) "__setattr__" = some (some (.builtin "object.__setattr__"))),
  decide (PySem.W.makesIn K (He.ga K "Slip") = true),
  decide (PySem.W.keepIn K (.ref (He.ga K "Slip")) = true),
  decide (PySem.W.findIn K (.ref (He.ga K "Slip")) "__init__" = some (some (.ref (He.ma K (He.ga K "Slip") "__init__")))),
  decide (PySem.W.isFn K (.ref (He.ma K (He.ga K "Slip") "__init__")) = true),
  decide (PySem.W.findIn K (.ref (He.ga K "Slip")) "number" = some none),
  decide (PySem.W.findIn K (.ref (He.ga K "Slip")) "what" = some none),
  decide (PySem.W.findIn K (.ref (He.ga K "Slip")) "out" = some none),
  decide (PySem.W.findIn K (.ref (He.ga K "Slip")) "path" = some none),
  decide (PySem.W.findIn K (.ref (He.ga K "Slip")) "age" = some none),
  decide (PySem.W.findIn K (.ref (He.ga K "Slip")) "mood" = some none),
  decide (PySem.W.findIn K (.ref (He.ga K "Slip")) "told" = some none),
  decide (PySem.W.nsIn K mainGlobals "House" = some (some (.ref (He.ga K "House")))),
  decide (PySem.W.plainGet K (He.ga K "House") Str.empty = true),
  decide (PySem.W.hasDictIn K (He.ga K "House") = true),
  decide (PySem.W.plainOver K (He.ga K "House") = true),
  decide (PySem.W.findIn K (.ref (He.ga K "House")) "__setattr__" = some (some (.builtin "object.__setattr__"))),
  decide (PySem.W.makesIn K (He.ga K "House") = true),
  decide (PySem.W.keepIn K (.ref (He.ga K "House")) = true),
  decide (PySem.W.findIn K (.ref (He.ga K "House")) "__init__" = some (some (.ref (He.ma K (He.ga K "House") "__init__")))),
  decide (PySem.W.isFn K (.ref (He.ma K (He.ga K "House") "__init__")) = true),
  decide (PySem.W.findIn K (.ref (He.ga K "House")) "live_slip" = some (some (.ref (He.ma K (He.ga K "House") "live_slip")))),
  decide (PySem.W.isFn K (.ref (He.ma K (He.ga K "House") "live_slip")) = true),
  decide (PySem.W.findIn K (.ref (He.ga K "House")) "slip_rows" = some (some (.ref (He.ma K (He.ga K "House") "slip_rows")))),
  decide (PySem.W.isFn K (.ref (He.ma K (He.ga K "House") "slip_rows")) = true),
  decide (PySem.W.findIn K (.ref (He.ga K "House")) "name" = some none),
  decide (PySem.W.findIn K (.ref (He.ga K "House")) "numbers" = some none),
  decide (PySem.W.findIn K (.ref (He.ga K "House")) "sight" = some none),
  decide (PySem.W.findIn K (.ref (He.ga K "House")) "wants" = some none),
  decide (PySem.W.findIn K (.ref (He.ga K "House")) "stands" = some none),
  decide (PySem.W.findIn K (.ref (He.ga K "House")) "news" = some none),
  decide (PySem.W.findIn K (.ref (He.ga K "House")) "queue" = some none),
  decide (PySem.W.findIn K (.ref (He.ga K "House")) "freed" = some none),
  decide (PySem.W.nsIn K mainGlobals "Web" = some (some (.ref (He.ga K "Web")))),
  decide (PySem.W.plainGet K (He.ga K "Web") Str.empty = true),
  decide (PySem.W.hasDictIn K (He.ga K "Web") = true),
  decide (PySem.W.plainOver K (He.ga K "Web") = true),
  decide (PySem.W.findIn K (.ref (He.ga K "Web")) "__setattr__" = some (some (.builtin "object.__setattr__"))),
  decide (PySem.W.makesIn K (He.ga K "Web") = true),
  decide (PySem.W.keepIn K (.ref (He.ga K "Web")) = true)]
def fb5 (K : PySem.W.Frag) : List Bool := [decide (PySem.W.findIn K (.ref (He.ga K "Web")) "__init__" = some (some (.ref (He.ma K (He.ga K "Web") "__init__")))),
  decide (PySem.W.isFn K (.ref (He.ma K (He.ga K "Web") "__init__")) = true),
  decide (PySem.W.findIn K (.ref (He.ga K "Web")) "__len__" = some (some (.ref (He.ma K (He.ga K "Web") "__len__")))),
  decide (PySem.W.isFn K (.ref (He.ma K (He.ga K "Web") "__len__")) = true),
  decide (PySem.W.findIn K (.ref (He.ga K "Web")) "__repr__" = some (some (.ref (He.ma K (He.ga K "Web") "__repr__")))),
  decide (PySem.W.isFn K (.ref (He.ma K (He.ga K "Web") "__repr__")) = true),
  decide (PySem.W.findIn K (.ref (He.ga K "Web")) "check_houses" = some (some (.ref (He.ma K (He.ga K "Web") "check_houses")))),
  decide (PySem.W.isFn K (.ref (He.ma K (He.ga K "Web") "check_houses")) = true),
  decide (PySem.W.findIn K (.ref (He.ga K "Web")) "check_tie" = some (some (.ref (He.ma K (He.ga K "Web") "check_tie")))),
  decide (PySem.W.isFn K (.ref (He.ma K (He.ga K "Web") "check_tie")) = true),
  decide (PySem.W.findIn K (.ref (He.ga K "Web")) "build" = some (some (.ref (He.ma K (He.ga K "Web") "build")))),
  decide (PySem.W.isFn K (.ref (He.ma K (He.ga K "Web") "build")) = true),
  decide (PySem.W.findIn K (.ref (He.ga K "Web")) "cut" = some (some (.ref (He.ma K (He.ga K "Web") "cut")))),
  decide (PySem.W.isFn K (.ref (He.ma K (He.ga K "Web") "cut")) = true),
  decide (PySem.W.findIn K (.ref (He.ga K "Web")) "snap" = some (some (.ref (He.ma K (He.ga K "Web") "snap")))),
  decide (PySem.W.isFn K (.ref (He.ma K (He.ga K "Web") "snap")) = true),
  decide (PySem.W.findIn K (.ref (He.ga K "Web")) "mend" = some (some (.ref (He.ma K (He.ga K "Web") "mend")))),
  decide (PySem.W.isFn K (.ref (He.ma K (He.ga K "Web") "mend")) = true),
  decide (PySem.W.findIn K (.ref (He.ga K "Web")) "charge" = some (some (.ref (He.ma K (He.ga K "Web") "charge")))),
  decide (PySem.W.isFn K (.ref (He.ma K (He.ga K "Web") "charge")) = true),
  decide (PySem.W.findIn K (.ref (He.ga K "Web")) "ties" = some (some (.ref (He.ma K (He.ga K "Web") "ties")))),
  decide (PySem.W.isFn K (.ref (He.ma K (He.ga K "Web") "ties")) = true),
  decide (PySem.W.findIn K (.ref (He.ga K "Web")) "rows" = some (some (.ref (He.ma K (He.ga K "Web") "rows")))),
  decide (PySem.W.isFn K (.ref (He.ma K (He.ga K "Web") "rows")) = true),
  decide (PySem.W.findIn K (.ref (He.ga K "Web")) "tunnels" = some (some (.ref (He.ma K (He.ga K "Web") "tunnels")))),
  decide (PySem.W.isFn K (.ref (He.ma K (He.ga K "Web") "tunnels")) = true),
  decide (PySem.W.findIn K (.ref (He.ga K "Web")) "homes" = some none),
  decide (PySem.W.findIn K (.ref (He.ga K "Web")) "bonds" = some none),
  decide (PySem.W.findIn K (.ref (He.ga K "Web")) "mail" = some none),
  decide (PySem.W.findIn K (.ref (He.ga K "Web")) "bores" = some none),
  decide (PySem.W.findIn K (.ref (He.ga K "Web")) "ever" = some none),
  _root_.K.intB K mainGlobals "MOST_HOUSES" 8,
  _root_.K.intB K mainGlobals "MOST_TIES" 14,
  _root_.K.intB K mainGlobals "MOST_PRICE" 9,
  _root_.K.intB K mainGlobals "MOST_ABOVE" 63,
  _root_.K.intB K mainGlobals "MOST_NUMBER" 9999,
  decide (PySem.W.subIn K (.ref (He.ga K "NoHouse")) (.ref (He.ga K "NoHouse")) = some true),
  decide (PySem.W.subIn K (.ref (He.ga K "NoTie")) (.ref (He.ga K "NoHouse")) = some false),
  decide (PySem.W.subIn K (.ref (He.ga K "NoTie")) (.ref (He.ga K "NoTie")) = some true),
  decide (PySem.W.subIn K (.ref (He.ga K "TooMany")) (.ref (He.ga K "NoHouse")) = some false)]
def fb6 (K : PySem.W.Frag) : List Bool := [decide (PySem.W.subIn K (.ref (He.ga K "TooMany")) (.ref (He.ga K "NoTie")) = some false),
  decide (PySem.W.subIn K (.ref (He.ga K "TooMany")) (.ref (He.ga K "TooMany")) = some true),
  decide (PySem.W.subIn K (.ref (He.ga K "HasTie")) (.ref (He.ga K "NoHouse")) = some false),
  decide (PySem.W.subIn K (.ref (He.ga K "HasTie")) (.ref (He.ga K "NoTie")) = some false),
  decide (PySem.W.subIn K (.ref (He.ga K "HasTie")) (.ref (He.ga K "TooMany")) = some false),
  decide (PySem.W.subIn K (.ref (He.ga K "BadPrice")) (.ref (He.ga K "NoHouse")) = some false),
  decide (PySem.W.subIn K (.ref (He.ga K "BadPrice")) (.ref (He.ga K "NoTie")) = some false),
  decide (PySem.W.subIn K (.ref (He.ga K "BadPrice")) (.ref (He.ga K "TooMany")) = some false),
  decide (PySem.W.subIn K (.ref (He.ga K "Broken")) (.ref (He.ga K "NoHouse")) = some false),
  decide (PySem.W.subIn K (.ref (He.ga K "Broken")) (.ref (He.ga K "NoTie")) = some false),
  decide (PySem.W.subIn K (.ref (He.ga K "Broken")) (.ref (He.ga K "TooMany")) = some false),
  decide (PySem.W.subIn K (.ref (He.ga K "Whole")) (.ref (He.ga K "NoHouse")) = some false),
  decide (PySem.W.subIn K (.ref (He.ga K "Whole")) (.ref (He.ga K "NoTie")) = some false),
  decide (PySem.W.subIn K (.ref (He.ga K "Whole")) (.ref (He.ga K "TooMany")) = some false),
  decide (PySem.W.nsIn K mainGlobals "NoTunnel" = some (some (.ref (He.ga K "NoTunnel")))),
  decide (PySem.W.subIn K (.ref (He.ga K "NoTunnel")) (.type "BaseException") = some true),
  decide (PySem.W.isClsIn K (He.ga K "NoTunnel") = true),
  decide (PySem.W.typeIn K (.ref (He.ga K "NoTunnel")) = some (.type "type")),
  decide (PySem.W.nsIn K mainGlobals "Short" = some (some (.ref (He.ga K "Short")))),
  decide (PySem.W.subIn K (.ref (He.ga K "Short")) (.type "BaseException") = some true),
  decide (PySem.W.isClsIn K (He.ga K "Short") = true),
  decide (PySem.W.typeIn K (.ref (He.ga K "Short")) = some (.type "type")),
  decide (PySem.W.nsIn K mainGlobals "Lone" = some (some (.ref (He.ga K "Lone")))),
  decide (PySem.W.subIn K (.ref (He.ga K "Lone")) (.type "BaseException") = some true),
  decide (PySem.W.isClsIn K (He.ga K "Lone") = true),
  decide (PySem.W.typeIn K (.ref (He.ga K "Lone")) = some (.type "type")),
  decide (PySem.W.subIn K (.ref (He.ga K "SlipError")) (.type "BaseException") = some true),
  decide (PySem.W.isClsIn K (He.ga K "SlipError") = true),
  decide (PySem.W.typeIn K (.ref (He.ga K "SlipError")) = some (.type "type")),
  decide (PySem.W.subIn K (.ref (He.ga K "HasTie")) (.ref (He.ga K "NoTunnel")) = some false),
  decide (PySem.W.subIn K (.ref (He.ga K "HasTie")) (.ref (He.ga K "Short")) = some false),
  decide (PySem.W.subIn K (.ref (He.ga K "HasTie")) (.ref (He.ga K "Lone")) = some false),
  decide (PySem.W.subIn K (.ref (He.ga K "HasTie")) (.ref (He.ga K "SlipError")) = some true),
  decide (PySem.W.subIn K (.ref (He.ga K "BadPrice")) (.ref (He.ga K "NoTunnel")) = some false),
  decide (PySem.W.subIn K (.ref (He.ga K "BadPrice")) (.ref (He.ga K "Short")) = some false),
  decide (PySem.W.subIn K (.ref (He.ga K "BadPrice")) (.ref (He.ga K "Lone")) = some false),
  decide (PySem.W.subIn K (.ref (He.ga K "BadPrice")) (.ref (He.ga K "SlipError")) = some true),
  decide (PySem.W.subIn K (.ref (He.ga K "Broken")) (.ref (He.ga K "NoTunnel")) = some false),
  decide (PySem.W.subIn K (.ref (He.ga K "Broken")) (.ref (He.ga K "Short")) = some false),
  decide (PySem.W.subIn K (.ref (He.ga K "Broken")) (.ref (He.ga K "Lone")) = some false)]
def fb7 (K : PySem.W.Frag) : List Bool := [decide (PySem.W.subIn K (.ref (He.ga K "Broken")) (.ref (He.ga K "SlipError")) = some true),
  decide (PySem.W.subIn K (.ref (He.ga K "Whole")) (.ref (He.ga K "NoTunnel")) = some false),
  decide (PySem.W.subIn K (.ref (He.ga K "Whole")) (.ref (He.ga K "Short")) = some false),
  decide (PySem.W.subIn K (.ref (He.ga K "Whole")) (.ref (He.ga K "Lone")) = some false),
  decide (PySem.W.subIn K (.ref (He.ga K "Whole")) (.ref (He.ga K "SlipError")) = some true),
  decide ((He.cT K ("law", none)).2 ≠ (He.cT K ("lose_house", none)).2),
  decide ((He.ga K "Web") ≠ (He.ga K "House")),
  decide ((He.ga K "Web") ≠ (He.ga K "Numbers")),
  decide ((He.ga K "Web") ≠ (He.ga K "Slip")),
  decide ((He.ga K "Numbers") ≠ (He.ga K "House")),
  decide ((He.ga K "Slip") ≠ (He.ga K "House")),
  decide (PySem.W.nsIn K mainGlobals "max" = some none),
  decide (PySem.W.nsIn K mainGlobals "repr" = some none),
  decide (PySem.W.nsIn K mainGlobals "len" = some none),
  decide (PySem.W.nsIn K mainGlobals "range" = some none),
  decide (PySem.W.nsIn K mainGlobals "list" = some none),
  decide (PySem.W.nsIn K mainGlobals "tuple" = some none),
  decide (PySem.W.nsIn K mainGlobals "isinstance" = some none),
  decide (PySem.W.nsIn K mainGlobals "bool" = some none),
  decide (PySem.W.nsIn K mainGlobals "int" = some none),
  decide (PySem.W.nsIn K mainGlobals "str" = some none),
  decide (PySem.W.nsIn K mainGlobals "all" = some none),
  decide (PySem.W.nsIn K mainGlobals "zip" = some none),
  decide (PySem.W.nsIn K mainGlobals "sum" = some none),
  decide (PySem.W.nsIn K mainGlobals "min" = some none),
  decide (PySem.W.nsIn K mainGlobals "sorted" = some none),
  decide (PySem.W.nsIn K mainGlobals "abs" = some none),
  decide (PySem.W.nsIn K mainGlobals "enumerate" = some none)]
def fb (K : PySem.W.Frag) : Bool := (fb0 K).all id && (fb1 K).all id && (fb2 K).all id && (fb3 K).all id && (fb4 K).all id && (fb5 K).all id && (fb6 K).all id && (fb7 K).all id
def tf : List He.Defn := [("law", none), ("lose_house", none)]
abbrev R : PySem.W.OpenRow := PySem.W.OpenLaw.row PySem.Challenge.rw_swapslip_k13_ties_built_and_broken
abbrev hk : PySem.W.Hook := _root_.K.hookK fn tf fb 1400
def ob (s : PySem.W.SharedT) : He.AlX := _root_.K.lookK fn tf fb 1400 (HandSHeadRun.getT s)
theorem ob_eq (s : PySem.W.SharedT) : ob s = hk.obs s.abs := _root_.K.lookK_eq fn tf fb (HandSHeadRun.getT_eq s)
def lo0 : List PySem.Str := ["_wall", "__name__", "Slip", "joined", "put_letter", "put_voids", "make_slip", "let_go", "withdraw", "kill", "Tunnel", "ahead_of", "lies_on", "lay_slip", "lay_waiting", "drop_tunnels", "drop_towards", "SlipError", "BadRange", "BadPrice"]
def lo1 : List PySem.Str := ["BadWay", "NoNumber", "HasTie", "Whole", "Broken", "TooMany", "NoHouse", "NoTie", "NotTaken", "NoTunnel", "Short", "Lone", "MOST_HOUSES", "MOST_TIES", "MOST_PRICE", "check_house", "aim", "is_short", "try_goal", "make_told"]
def lo2 : List PySem.Str := ["try_all", "go_on", "tell_slips", "lose_house", "lose_holder", "fell_tunnel", "MOST_NUMBER", "MOST_ABOVE", "is_range", "Numbers", "House", "sorted_pair", "check_price", "house_state", "web_state", "Web", "_law_box", "_law_take", "_law_of", "_law_same"]
def lo3 : List PySem.Str := ["_law_wild", "_law_why", "_law_pairs", "_law_shuffled", "_law_ranges", "_law_tie_deed", "_law_refused", "_law_acted"]
def lo : List PySem.Str := lo0 ++ lo1 ++ lo2 ++ lo3
open PySem PySem.W PySem.Calls HandSHeadRun in
noncomputable def xx (w : World) (os : OsState) : Option SharedT := endF (stepQ (denQ tabQ) R.prog w) 9000 R.prog w os
def kk (s : PySem.W.SharedT) : PySem.W.Frag := _root_.K.seenK 1400 (HandSHeadRun.getT s)
open PySem PySem.W PySem.Calls HandSHeadRun in
theorem rA (w : World) (os : OsState) : (xx w os).map (fun s => (looksF R.prog (boot_heap w.params) s.abs, seenQ (view R.prog [76]) lo (importedModules R.prog.main.body) (fun s => xlAt (view R.prog [76]) [] s && recOk R.toRowW.records s) s.abs)) = some (true, openGood (view R.prog [76]) lo) := by
  kernel_rfl
theorem rB (w : World) (os : OsState) : (xx w os).map (fun s => He.obsT [] fn [] (kk s)) = some (He.valT fn [] w) := by
  kernel_rfl
theorem rC (w : World) (os : OsState) : (xx w os).map (fun s => He.tabsB (HandSHeadRun.getT s) tf (kk s)) = some true := by
  kernel_rfl
theorem rF0 (w : World) (os : OsState) : (xx w os).map (fun s => (fb0 (kk s)).all id && (fb1 (kk s)).all id) = some true := by
  kernel_rfl
theorem rF1 (w : World) (os : OsState) : (xx w os).map (fun s => (fb2 (kk s)).all id && (fb3 (kk s)).all id) = some true := by
  kernel_rfl
theorem rF2 (w : World) (os : OsState) : (xx w os).map (fun s => (fb4 (kk s)).all id && (fb5 (kk s)).all id) = some true := by
  kernel_rfl
theorem rF3 (w : World) (os : OsState) : (xx w os).map (fun s => (fb6 (kk s)).all id && (fb7 (kk s)).all id) = some true := by
  kernel_rfl
theorem run (w : World) : HandSHeadRun.RunEq R (PySem.W.view R.prog [76]) hk ob 9000 lo w := by
  intro os
  have a := rA w os
  have b := rB w os
  have c := rC w os
  have f0 := rF0 w os
  have f1 := rF1 w os
  have f2 := rF2 w os
  have f3 := rF3 w os
  show (xx w os).map _ = _
  cases e : xx w os with
  | none => rw [e] at a; cases a
  | some s =>
    rw [e] at a b c f0 f1 f2 f3
    have a := Option.some.inj a
    have b : He.obsT [] fn [] (kk s) = He.valT fn [] w := Option.some.inj b
    have c : He.tabsB (HandSHeadRun.getT s) tf (kk s) = true := Option.some.inj c
    have f0 : ((fb0 (kk s)).all id && (fb1 (kk s)).all id) = true := Option.some.inj f0
    have f1 : ((fb2 (kk s)).all id && (fb3 (kk s)).all id) = true := Option.some.inj f1
    have f2 : ((fb4 (kk s)).all id && (fb5 (kk s)).all id) = true := Option.some.inj f2
    have f3 : ((fb6 (kk s)).all id && (fb7 (kk s)).all id) = true := Option.some.inj f3
    obtain ⟨u1, v1⟩ := He.ba f0
    have v0 := u1
    obtain ⟨u3, v3⟩ := He.ba f1
    have v2 := u3
    obtain ⟨u5, v5⟩ := He.ba f2
    have v4 := u5
    obtain ⟨u7, v7⟩ := He.ba f3
    have v6 := u7
    have fa : fb (kk s) = true := by
      unfold fb
      rw [v0, v1, v2, v3, v4, v5, v6, v7] <;> rfl
    have o1 : ob s = He.valX fn [] w := by
      show (He.obsT [] fn [] (kk s), fb (kk s) && He.tabsB (HandSHeadRun.getT s) tf (kk s)) = (He.valT fn [] w, true)
      rw [b, fa, c] <;> rfl
    obtain ⟨a1, a2⟩ := Prod.mk.inj a
    show some _ = some _
    exact congrArg some (Prod.ext a1 (Prod.ext a2 o1))
theorem facts {l : PySem.W.OpenLaw} {w : World} {K : PySem.W.Frag} {h : Heap} {mg : Str → Option Value} {fa : Addr} (X : K.In h) (G : h.Ns mainGlobals mg) (hfa : mg "law" = some (.ref fa)) (c : He.SaysX [] fn [] tf fb w h K) : LamX.LawAtS l w K CX0 12 63 "_law_script" mg fa h := by
  obtain ⟨oc0, od0, kV0, dc0, pm0, an0, cd0, ct0, sl0, l0, c0, kf0⟩ := _root_.K.fun_at (c.t.d.def_ 0 (d := d0) rfl)
  obtain ⟨oc1, od1, kV1, dc1, pm1, an1, cd1, ct1, sl1, l1, c1, kf1⟩ := _root_.K.fun_at (c.t.d.def_ 1 (d := d1) rfl)
  obtain ⟨oc2, od2, kV2, dc2, pm2, an2, cd2, ct2, sl2, l2, c2, kf2⟩ := _root_.K.fun_at (c.t.d.def_ 2 (d := d2) rfl)
  obtain ⟨oc3, od3, kV3, dc3, pm3, an3, cd3, ct3, sl3, l3, c3, kf3⟩ := _root_.K.fun_at (c.t.d.def_ 3 (d := d3) rfl)
  obtain ⟨oc4, od4, kV4, dc4, pm4, an4, cd4, ct4, sl4, l4, c4, kf4⟩ := _root_.K.fun_at (c.t.d.def_ 4 (d := d4) rfl)
  obtain ⟨oc5, od5, kV5, dc5, pm5, an5, cd5, ct5, sl5, l5, c5, kf5⟩ := _root_.K.fun_at (c.t.d.def_ 5 (d := d5) rfl)
  obtain ⟨oc6, od6, kV6, dc6, pm6, an6, cd6, ct6, sl6, l6, c6, kf6⟩ := _root_.K.fun_at (c.t.d.def_ 6 (d := d6) rfl)
  obtain ⟨oc7, od7, kV7, dc7, pm7, an7, cd7, ct7, sl7, l7, c7, kf7⟩ := _root_.K.fun_at (c.t.d.def_ 7 (d := d7) rfl)
  obtain ⟨oc8, od8, kV8, dc8, pm8, an8, cd8, ct8, sl8, l8, c8, kf8⟩ := _root_.K.fun_at (c.t.d.def_ 8 (d := d8) rfl)
  obtain ⟨oc9, od9, kV9, dc9, pm9, an9, cd9, ct9, sl9, l9, c9, kf9⟩ := _root_.K.fun_at (c.t.d.def_ 9 (d := d9) rfl)
  obtain ⟨oc10, od10, kV10, dc10, pm10, an10, cd10, ct10, sl10, l10, c10, kf10⟩ := _root_.K.fun_at (c.t.d.def_ 10 (d := d10) rfl)
  obtain ⟨oc11, od11, kV11, dc11, pm11, an11, cd11, ct11, sl11, l11, c11, kf11⟩ := _root_.K.fun_at (c.t.d.def_ 11 (d := d11) rfl)
  obtain ⟨oc12, od12, kV12, dc12, pm12, an12, cd12, ct12, sl12, l12, c12, kf12⟩ := _root_.K.fun_at (c.t.d.def_ 12 (d := d12) rfl)
  obtain ⟨oc13, od13, kV13, dc13, pm13, an13, cd13, ct13, sl13, l13, c13, kf13⟩ := _root_.K.fun_at (c.t.d.def_ 13 (d := d13) rfl)
  obtain ⟨oc14, od14, kV14, dc14, pm14, an14, cd14, ct14, sl14, l14, c14, kf14⟩ := _root_.K.fun_at (c.t.d.def_ 14 (d := d14) rfl)
  obtain ⟨oc15, od15, kV15, dc15, pm15, an15, cd15, ct15, sl15, l15, c15, kf15⟩ := _root_.K.fun_at (c.t.d.def_ 15 (d := d15) rfl)
  obtain ⟨oc16, od16, kV16, dc16, pm16, an16, cd16, ct16, sl16, l16, c16, kf16⟩ := _root_.K.fun_at (c.t.d.def_ 16 (d := d16) rfl)
  obtain ⟨oc17, od17, kV17, dc17, pm17, an17, cd17, ct17, sl17, l17, c17, kf17⟩ := _root_.K.fun_at (c.t.d.def_ 17 (d := d17) rfl)
  obtain ⟨oc18, od18, kV18, dc18, pm18, an18, cd18, ct18, sl18, l18, c18, kf18⟩ := _root_.K.fun_at (c.t.d.def_ 18 (d := d18) rfl)
  obtain ⟨oc19, od19, kV19, dc19, pm19, an19, cd19, ct19, sl19, l19, c19, kf19⟩ := _root_.K.fun_at (c.t.d.def_ 19 (d := d19) rfl)
  obtain ⟨oc20, od20, kV20, dc20, pm20, an20, cd20, ct20, sl20, l20, c20, kf20⟩ := _root_.K.fun_at (c.t.d.def_ 20 (d := d20) rfl)
  obtain ⟨oc21, od21, kV21, dc21, pm21, an21, cd21, ct21, sl21, l21, c21, kf21⟩ := _root_.K.fun_at (c.t.d.def_ 21 (d := d21) rfl)
  obtain ⟨oc22, od22, kV22, dc22, pm22, an22, cd22, ct22, sl22, l22, c22, kf22⟩ := _root_.K.fun_at (c.t.d.def_ 22 (d := d22) rfl)
  obtain ⟨oc23, od23, kV23, dc23, pm23, an23, cd23, ct23, sl23, l23, c23, kf23⟩ := _root_.K.fun_at (c.t.d.def_ 23 (d := d23) rfl)
  obtain ⟨oc24, od24, kV24, dc24, pm24, an24, cd24, ct24, sl24, l24, c24, kf24⟩ := _root_.K.fun_at (c.t.d.def_ 24 (d := d24) rfl)
  obtain ⟨oc25, od25, kV25, dc25, pm25, an25, cd25, ct25, sl25, l25, c25, kf25⟩ := _root_.K.fun_at (c.t.d.def_ 25 (d := d25) rfl)
  obtain ⟨oc26, od26, kV26, dc26, pm26, an26, cd26, ct26, sl26, l26, c26, kf26⟩ := _root_.K.fun_at (c.t.d.def_ 26 (d := d26) rfl)
  obtain ⟨oc27, od27, kV27, dc27, pm27, an27, cd27, ct27, sl27, l27, c27, kf27⟩ := _root_.K.fun_at (c.t.d.def_ 27 (d := d27) rfl)
  obtain ⟨ocS, odS, TD, kVS, dcS, pmS, anS, cdS, ctS, slS, ocT, odT, tk1, tk2, nT, slT, lS, cS, kS, lT⟩ := _root_.K.fun_strs (c.t.d.def_ 28 (d := d28) rfl)
  obtain ⟨ocTooMany, odTooMany, kVTooMany, dcTooMany, pmTooMany, anTooMany, cdTooMany, ctTooMany, slTooMany, lTooMany, cTooMany, kfTooMany⟩ := _root_.K.fun_at (c.t.d.def_ 29 (d := d29) rfl)
  obtain ⟨ocNoNumber, odNoNumber, kVNoNumber, dcNoNumber, pmNoNumber, anNoNumber, cdNoNumber, ctNoNumber, slNoNumber, lNoNumber, cNoNumber, kfNoNumber⟩ := _root_.K.fun_at (c.t.d.def_ 30 (d := d30) rfl)
  obtain ⟨ocNoHouse, odNoHouse, kVNoHouse, dcNoHouse, pmNoHouse, anNoHouse, cdNoHouse, ctNoHouse, slNoHouse, lNoHouse, cNoHouse, kfNoHouse⟩ := _root_.K.fun_at (c.t.d.def_ 31 (d := d31) rfl)
  obtain ⟨ocNoTie, odNoTie, kVNoTie, dcNoTie, pmNoTie, anNoTie, cdNoTie, ctNoTie, slNoTie, lNoTie, cNoTie, kfNoTie⟩ := _root_.K.fun_at (c.t.d.def_ 32 (d := d32) rfl)
  obtain ⟨ocHasTie, odHasTie, kVHasTie, dcHasTie, pmHasTie, anHasTie, cdHasTie, ctHasTie, slHasTie, lHasTie, cHasTie, kfHasTie⟩ := _root_.K.fun_at (c.t.d.def_ 33 (d := d33) rfl)
  obtain ⟨ocBadPrice, odBadPrice, kVBadPrice, dcBadPrice, pmBadPrice, anBadPrice, cdBadPrice, ctBadPrice, slBadPrice, lBadPrice, cBadPrice, kfBadPrice⟩ := _root_.K.fun_at (c.t.d.def_ 34 (d := d34) rfl)
  obtain ⟨ocBroken, odBroken, kVBroken, dcBroken, pmBroken, anBroken, cdBroken, ctBroken, slBroken, lBroken, cBroken, kfBroken⟩ := _root_.K.fun_at (c.t.d.def_ 35 (d := d35) rfl)
  obtain ⟨ocWhole, odWhole, kVWhole, dcWhole, pmWhole, anWhole, cdWhole, ctWhole, slWhole, lWhole, cWhole, kfWhole⟩ := _root_.K.fun_at (c.t.d.def_ 36 (d := d36) rfl)
  obtain ⟨ocNumbersinit, odNumbersinit, kVNumbersinit, dcNumbersinit, pmNumbersinit, anNumbersinit, cdNumbersinit, ctNumbersinit, slNumbersinit, lNumbersinit, cNumbersinit, kfNumbersinit⟩ := _root_.K.fun_at (c.t.d.def_ 37 (d := d37) rfl)
  obtain ⟨ocNumberstake, odNumberstake, kVNumberstake, dcNumberstake, pmNumberstake, anNumberstake, cdNumberstake, ctNumberstake, slNumberstake, lNumberstake, cNumberstake, kfNumberstake⟩ := _root_.K.fun_at (c.t.d.def_ 38 (d := d38) rfl)
  obtain ⟨ocSlipinit, odSlipinit, kVSlipinit, dcSlipinit, pmSlipinit, anSlipinit, cdSlipinit, ctSlipinit, slSlipinit, lSlipinit, cSlipinit, kfSlipinit⟩ := _root_.K.fun_at (c.t.d.def_ 39 (d := d39) rfl)
  obtain ⟨ocHouseinit, odHouseinit, kVHouseinit, dcHouseinit, pmHouseinit, anHouseinit, cdHouseinit, ctHouseinit, slHouseinit, lHouseinit, cHouseinit, kfHouseinit⟩ := _root_.K.fun_at (c.t.d.def_ 40 (d := d40) rfl)
  obtain ⟨ocHouselive_slip, odHouselive_slip, kVHouselive_slip, dcHouselive_slip, pmHouselive_slip, anHouselive_slip, cdHouselive_slip, ctHouselive_slip, slHouselive_slip, lHouselive_slip, cHouselive_slip, kfHouselive_slip⟩ := _root_.K.fun_at (c.t.d.def_ 41 (d := d41) rfl)
  obtain ⟨ocHouseslip_rows, odHouseslip_rows, kVHouseslip_rows, dcHouseslip_rows, pmHouseslip_rows, anHouseslip_rows, cdHouseslip_rows, ctHouseslip_rows, slHouseslip_rows, lHouseslip_rows, cHouseslip_rows, kfHouseslip_rows⟩ := _root_.K.fun_at (c.t.d.def_ 42 (d := d42) rfl)
  obtain ⟨ocWebinit, odWebinit, kVWebinit, dcWebinit, pmWebinit, anWebinit, cdWebinit, ctWebinit, slWebinit, lWebinit, cWebinit, kfWebinit⟩ := _root_.K.fun_at (c.t.d.def_ 43 (d := d43) rfl)
  obtain ⟨ocWeblen, odWeblen, kVWeblen, dcWeblen, pmWeblen, anWeblen, cdWeblen, ctWeblen, slWeblen, lWeblen, cWeblen, kfWeblen⟩ := _root_.K.fun_at (c.t.d.def_ 44 (d := d44) rfl)
  obtain ⟨ocWebrepr, odWebrepr, kVWebrepr, dcWebrepr, pmWebrepr, anWebrepr, cdWebrepr, ctWebrepr, slWebrepr, lWebrepr, cWebrepr, kfWebrepr⟩ := _root_.K.fun_at (c.t.d.def_ 45 (d := d45) rfl)
  obtain ⟨ocWebcheck_houses, odWebcheck_houses, kVWebcheck_houses, dcWebcheck_houses, pmWebcheck_houses, anWebcheck_houses, cdWebcheck_houses, ctWebcheck_houses, slWebcheck_houses, lWebcheck_houses, cWebcheck_houses, kfWebcheck_houses⟩ := _root_.K.fun_at (c.t.d.def_ 46 (d := d46) rfl)
  obtain ⟨ocWebcheck_tie, odWebcheck_tie, kVWebcheck_tie, dcWebcheck_tie, pmWebcheck_tie, anWebcheck_tie, cdWebcheck_tie, ctWebcheck_tie, slWebcheck_tie, lWebcheck_tie, cWebcheck_tie, kfWebcheck_tie⟩ := _root_.K.fun_at (c.t.d.def_ 47 (d := d47) rfl)
  obtain ⟨ocWebbuild, odWebbuild, DB, dcWebbuild, pmWebbuild, anWebbuild, cdWebbuild, ctWebbuild, slWebbuild, tkB, lWebbuild, cWebbuild, kfWebbuild, kwB⟩ := _root_.K.fun_kw (c.t.d.def_ 48 (d := d48) rfl)
  obtain ⟨ocWebcut, odWebcut, kVWebcut, dcWebcut, pmWebcut, anWebcut, cdWebcut, ctWebcut, slWebcut, lWebcut, cWebcut, kfWebcut⟩ := _root_.K.fun_at (c.t.d.def_ 49 (d := d49) rfl)
  obtain ⟨ocWebsnap, odWebsnap, kVWebsnap, dcWebsnap, pmWebsnap, anWebsnap, cdWebsnap, ctWebsnap, slWebsnap, lWebsnap, cWebsnap, kfWebsnap⟩ := _root_.K.fun_at (c.t.d.def_ 50 (d := d50) rfl)
  obtain ⟨ocWebmend, odWebmend, kVWebmend, dcWebmend, pmWebmend, anWebmend, cdWebmend, ctWebmend, slWebmend, lWebmend, cWebmend, kfWebmend⟩ := _root_.K.fun_at (c.t.d.def_ 51 (d := d51) rfl)
  obtain ⟨ocWebcharge, odWebcharge, kVWebcharge, dcWebcharge, pmWebcharge, anWebcharge, cdWebcharge, ctWebcharge, slWebcharge, lWebcharge, cWebcharge, kfWebcharge⟩ := _root_.K.fun_at (c.t.d.def_ 52 (d := d52) rfl)
  obtain ⟨ocWebties, odWebties, kVWebties, dcWebties, pmWebties, anWebties, cdWebties, ctWebties, slWebties, lWebties, cWebties, kfWebties⟩ := _root_.K.fun_at (c.t.d.def_ 53 (d := d53) rfl)
  obtain ⟨ocWebrows, odWebrows, kVWebrows, dcWebrows, pmWebrows, anWebrows, cdWebrows, ctWebrows, slWebrows, lWebrows, cWebrows, kfWebrows⟩ := _root_.K.fun_at (c.t.d.def_ 54 (d := d54) rfl)
  obtain ⟨ocWebtunnels, odWebtunnels, kVWebtunnels, dcWebtunnels, pmWebtunnels, anWebtunnels, cdWebtunnels, ctWebtunnels, slWebtunnels, lWebtunnels, cWebtunnels, kfWebtunnels⟩ := _root_.K.fun_at (c.t.d.def_ 55 (d := d55) rfl)
  have cm : ((fb0 K).all id && (fb1 K).all id && (fb2 K).all id && (fb3 K).all id && (fb4 K).all id && (fb5 K).all id && (fb6 K).all id && (fb7 K).all id) = true := c.more
  obtain ⟨cm7, cb7⟩ := He.ba cm
  obtain ⟨cm6, cb6⟩ := He.ba cm7
  obtain ⟨cm5, cb5⟩ := He.ba cm6
  obtain ⟨cm4, cb4⟩ := He.ba cm5
  obtain ⟨cm3, cb3⟩ := He.ba cm4
  obtain ⟨cm2, cb2⟩ := He.ba cm3
  obtain ⟨cm1, cb1⟩ := He.ba cm2
  have cb0 := cm1
  obtain ⟨nmTooMany, qnTooMany, NTooMany, bsTooMany, bmTooMany, snTooMany, subTooMany, abTooMany, colTooMany, ddTooMany, p0TooMany, p1TooMany, p2TooMany, p3TooMany, p5TooMany, xTooMany, rTooMany⟩ := _root_.K.oexB_ok (_root_.K.all_at cb0 35 rfl)
  obtain ⟨nmNoNumber, qnNoNumber, NNoNumber, bsNoNumber, bmNoNumber, snNoNumber, subNoNumber, abNoNumber, colNoNumber, ddNoNumber, p0NoNumber, p1NoNumber, p2NoNumber, p3NoNumber, p5NoNumber, xNoNumber, rNoNumber⟩ := _root_.K.oexB_ok (_root_.K.all_at cb1 9 rfl)
  obtain ⟨nmNoHouse, qnNoHouse, NNoHouse, bsNoHouse, bmNoHouse, snNoHouse, subNoHouse, abNoHouse, colNoHouse, ddNoHouse, p0NoHouse, p1NoHouse, p2NoHouse, p3NoHouse, p5NoHouse, xNoHouse, rNoHouse⟩ := _root_.K.oexB_ok (_root_.K.all_at cb1 22 rfl)
  obtain ⟨nmNoTie, qnNoTie, NNoTie, bsNoTie, bmNoTie, snNoTie, subNoTie, abNoTie, colNoTie, ddNoTie, p0NoTie, p1NoTie, p2NoTie, p3NoTie, p5NoTie, xNoTie, rNoTie⟩ := _root_.K.oexB_ok (_root_.K.all_at cb1 36 rfl)
  obtain ⟨nmHasTie, qnHasTie, NHasTie, bsHasTie, bmHasTie, snHasTie, subHasTie, abHasTie, colHasTie, ddHasTie, p0HasTie, p1HasTie, p2HasTie, p3HasTie, p5HasTie, xHasTie, rHasTie⟩ := _root_.K.oexB_ok (_root_.K.all_at cb2 11 rfl)
  obtain ⟨nmBadPrice, qnBadPrice, NBadPrice, bsBadPrice, bmBadPrice, snBadPrice, subBadPrice, abBadPrice, colBadPrice, ddBadPrice, p0BadPrice, p1BadPrice, p2BadPrice, p3BadPrice, p5BadPrice, xBadPrice, rBadPrice⟩ := _root_.K.oexB_ok (_root_.K.all_at cb2 24 rfl)
  obtain ⟨nmBroken, qnBroken, NBroken, bsBroken, bmBroken, snBroken, subBroken, abBroken, colBroken, ddBroken, p0Broken, p1Broken, p2Broken, p3Broken, p5Broken, xBroken, rBroken⟩ := _root_.K.oexB_ok (_root_.K.all_at cb2 37 rfl)
  obtain ⟨nmWhole, qnWhole, NWhole, bsWhole, bmWhole, snWhole, subWhole, abWhole, colWhole, ddWhole, p0Whole, p1Whole, p2Whole, p3Whole, p5Whole, xWhole, rWhole⟩ := _root_.K.oexB_ok (_root_.K.all_at cb3 10 rfl)
  obtain ⟨tkMOST_HOUSES, coMOST_HOUSES⟩ := _root_.K.intB_ok (_root_.K.all_at cb5 31 rfl)
  obtain ⟨tkMOST_TIES, coMOST_TIES⟩ := _root_.K.intB_ok (_root_.K.all_at cb5 32 rfl)
  obtain ⟨tkMOST_PRICE, coMOST_PRICE⟩ := _root_.K.intB_ok (_root_.K.all_at cb5 33 rfl)
  obtain ⟨tkMOST_ABOVE, coMOST_ABOVE⟩ := _root_.K.intB_ok (_root_.K.all_at cb5 34 rfl)
  obtain ⟨tkMOST_NUMBER, coMOST_NUMBER⟩ := _root_.K.intB_ok (_root_.K.all_at cb5 35 rfl)
  obtain ⟨zcT, rfl⟩ := He.codeIn_ref c27
  have ecT : (He.cT K ("law", none)).1 = zcT := He.codeOf_eq l27 rfl
  rw [← ecT] at l27 c27
  obtain ⟨zcU, rfl⟩ := He.codeIn_ref c26
  have ecU : (He.cT K ("lose_house", none)).1 = zcU := He.codeOf_eq l26 rfl
  rw [← ecU] at l26 c26
  exact _root_.K.all_mk X G hfa (of_decide_eq_true (_root_.K.all_at cb0 0 rfl)) (l0) (c0) (kf0) (of_decide_eq_true (_root_.K.all_at cb0 1 rfl)) (l1) (c1) (kf1) (of_decide_eq_true (_root_.K.all_at cb0 2 rfl)) (l2) (c2) (kf2) (of_decide_eq_true (_root_.K.all_at cb0 3 rfl)) (l3) (c3) (kf3) (of_decide_eq_true (_root_.K.all_at cb0 4 rfl)) (l4) (c4) (kf4) (of_decide_eq_true (_root_.K.all_at cb0 5 rfl)) (l5) (c5) (kf5) (of_decide_eq_true (_root_.K.all_at cb0 6 rfl)) (l6) (c6) (kf6) (of_decide_eq_true (_root_.K.all_at cb0 7 rfl)) (l7) (c7) (kf7) (of_decide_eq_true (_root_.K.all_at cb0 8 rfl)) (l8) (c8) (kf8) (of_decide_eq_true (_root_.K.all_at cb0 9 rfl)) (l9) (c9) (kf9) (of_decide_eq_true (_root_.K.all_at cb0 10 rfl)) (l10) (c10) (kf10) (of_decide_eq_true (_root_.K.all_at cb0 11 rfl)) (l11) (c11) (kf11) (of_decide_eq_true (_root_.K.all_at cb0 12 rfl)) (l12) (c12) (kf12) (of_decide_eq_true (_root_.K.all_at cb0 13 rfl)) (l13) (c13) (kf13) (of_decide_eq_true (_root_.K.all_at cb0 14 rfl)) (l14) (c14) (kf14) (of_decide_eq_true (_root_.K.all_at cb0 15 rfl)) (l15) (c15) (kf15) (of_decide_eq_true (_root_.K.all_at cb0 16 rfl)) (l16) (c16) (kf16) (of_decide_eq_true (_root_.K.all_at cb0 17 rfl)) (l17) (c17) (kf17) (of_decide_eq_true (_root_.K.all_at cb0 18 rfl)) (l18) (c18) (kf18) (of_decide_eq_true (_root_.K.all_at cb0 19 rfl)) (l19) (c19) (kf19) (of_decide_eq_true (_root_.K.all_at cb0 20 rfl)) (l20) (c20) (kf20) (of_decide_eq_true (_root_.K.all_at cb0 21 rfl)) (l21) (c21) (kf21) (of_decide_eq_true (_root_.K.all_at cb0 22 rfl)) (l22) (c22) (kf22) (of_decide_eq_true (_root_.K.all_at cb0 23 rfl)) (l23) (c23) (kf23) (of_decide_eq_true (_root_.K.all_at cb0 24 rfl)) (l24) (c24) (kf24) (of_decide_eq_true (_root_.K.all_at cb0 25 rfl)) (l25) (c25) (kf25) (of_decide_eq_true (_root_.K.all_at cb0 26 rfl)) (l26) (c26) (kf26) (of_decide_eq_true (_root_.K.all_at cb0 27 rfl)) (l27) (c27) (kf27) (of_decide_eq_true (_root_.K.all_at cb0 28 rfl)) (of_decide_eq_true (_root_.K.all_at cb0 29 rfl)) (of_decide_eq_true (_root_.K.all_at cb0 30 rfl)) (_root_.K.valB_ok (_root_.K.all_at cb0 31 rfl)) (lS) (lT) (cS) (kS) (_root_.K.valB_ok (_root_.K.all_at cb0 32 rfl)) (of_decide_eq_true (_root_.K.all_at cb0 33 rfl)) (of_decide_eq_true (_root_.K.all_at cb0 34 rfl)) (xTooMany) (rTooMany) (of_decide_eq_true (_root_.K.all_at cb0 36 rfl)) (of_decide_eq_true (_root_.K.all_at cb0 37 rfl)) (of_decide_eq_true (_root_.K.all_at cb0 38 rfl)) (of_decide_eq_true (_root_.K.all_at cb0 39 rfl)) (of_decide_eq_true (_root_.K.all_at cb1 0 rfl)) (of_decide_eq_true (_root_.K.all_at cb1 1 rfl)) (of_decide_eq_true (_root_.K.all_at cb1 2 rfl)) (of_decide_eq_true (_root_.K.all_at cb1 3 rfl)) (of_decide_eq_true (_root_.K.all_at cb1 4 rfl)) (lTooMany) (cTooMany) (kfTooMany) (of_decide_eq_true (_root_.K.all_at cb1 5 rfl)) (of_decide_eq_true (_root_.K.all_at cb1 6 rfl)) (of_decide_eq_true (_root_.K.all_at cb1 7 rfl)) (of_decide_eq_true (_root_.K.all_at cb1 8 rfl)) (xNoNumber) (rNoNumber) (of_decide_eq_true (_root_.K.all_at cb1 10 rfl)) (of_decide_eq_true (_root_.K.all_at cb1 11 rfl)) (of_decide_eq_true (_root_.K.all_at cb1 12 rfl)) (of_decide_eq_true (_root_.K.all_at cb1 13 rfl)) (of_decide_eq_true (_root_.K.all_at cb1 14 rfl)) (of_decide_eq_true (_root_.K.all_at cb1 15 rfl)) (of_decide_eq_true (_root_.K.all_at cb1 16 rfl)) (of_decide_eq_true (_root_.K.all_at cb1 17 rfl)) (of_decide_eq_true (_root_.K.all_at cb1 18 rfl)) (lNoNumber) (cNoNumber) (kfNoNumber) (of_decide_eq_true (_root_.K.all_at cb1 19 rfl)) (of_decide_eq_true (_root_.K.all_at cb1 20 rfl)) (of_decide_eq_true (_root_.K.all_at cb1 21 rfl)) (xNoHouse) (rNoHouse) (of_decide_eq_true (_root_.K.all_at cb1 23 rfl)) (of_decide_eq_true (_root_.K.all_at cb1 24 rfl)) (of_decide_eq_true (_root_.K.all_at cb1 25 rfl)) (of_decide_eq_true (_root_.K.all_at cb1 26 rfl)) (of_decide_eq_true (_root_.K.all_at cb1 27 rfl)) (of_decide_eq_true (_root_.K.all_at cb1 28 rfl)) (of_decide_eq_true (_root_.K.all_at cb1 29 rfl)) (of_decide_eq_true (_root_.K.all_at cb1 30 rfl)) (of_decide_eq_true (_root_.K.all_at cb1 31 rfl)) (lNoHouse) (cNoHouse) (kfNoHouse) (of_decide_eq_true (_root_.K.all_at cb1 32 rfl)) (of_decide_eq_true (_root_.K.all_at cb1 33 rfl)) (of_decide_eq_true (_root_.K.all_at cb1 34 rfl)) (of_decide_eq_true (_root_.K.all_at cb1 35 rfl)) (xNoTie) (rNoTie) (of_decide_eq_true (_root_.K.all_at cb1 37 rfl)) (of_decide_eq_true (_root_.K.all_at cb1 38 rfl)) (of_decide_eq_true (_root_.K.all_at cb1 39 rfl)) (of_decide_eq_true (_root_.K.all_at cb2 0 rfl)) (of_decide_eq_true (_root_.K.all_at cb2 1 rfl)) (of_decide_eq_true (_root_.K.all_at cb2 2 rfl)) (of_decide_eq_true (_root_.K.all_at cb2 3 rfl)) (of_decide_eq_true (_root_.K.all_at cb2 4 rfl)) (of_decide_eq_true (_root_.K.all_at cb2 5 rfl)) (lNoTie) (cNoTie) (kfNoTie) (of_decide_eq_true (_root_.K.all_at cb2 6 rfl)) (of_decide_eq_true (_root_.K.all_at cb2 7 rfl)) (of_decide_eq_true (_root_.K.all_at cb2 8 rfl)) (of_decide_eq_true (_root_.K.all_at cb2 9 rfl)) (of_decide_eq_true (_root_.K.all_at cb2 10 rfl)) (xHasTie) (rHasTie) (of_decide_eq_true (_root_.K.all_at cb2 12 rfl)) (of_decide_eq_true (_root_.K.all_at cb2 13 rfl)) (of_decide_eq_true (_root_.K.all_at cb2 14 rfl)) (of_decide_eq_true (_root_.K.all_at cb2 15 rfl)) (of_decide_eq_true (_root_.K.all_at cb2 16 rfl)) (of_decide_eq_true (_root_.K.all_at cb2 17 rfl)) (of_decide_eq_true (_root_.K.all_at cb2 18 rfl)) (of_decide_eq_true (_root_.K.all_at cb2 19 rfl)) (of_decide_eq_true (_root_.K.all_at cb2 20 rfl)) (lHasTie) (cHasTie) (kfHasTie) (of_decide_eq_true (_root_.K.all_at cb2 21 rfl)) (of_decide_eq_true (_root_.K.all_at cb2 22 rfl)) (of_decide_eq_true (_root_.K.all_at cb2 23 rfl)) (xBadPrice) (rBadPrice) (of_decide_eq_true (_root_.K.all_at cb2 25 rfl)) (of_decide_eq_true (_root_.K.all_at cb2 26 rfl)) (of_decide_eq_true (_root_.K.all_at cb2 27 rfl)) (of_decide_eq_true (_root_.K.all_at cb2 28 rfl)) (of_decide_eq_true (_root_.K.all_at cb2 29 rfl)) (of_decide_eq_true (_root_.K.all_at cb2 30 rfl)) (of_decide_eq_true (_root_.K.all_at cb2 31 rfl)) (of_decide_eq_true (_root_.K.all_at cb2 32 rfl)) (of_decide_eq_true (_root_.K.all_at cb2 33 rfl)) (lBadPrice) (cBadPrice) (kfBadPrice) (of_decide_eq_true (_root_.K.all_at cb2 34 rfl)) (of_decide_eq_true (_root_.K.all_at cb2 35 rfl)) (of_decide_eq_true (_root_.K.all_at cb2 36 rfl)) (xBroken) (rBroken) (of_decide_eq_true (_root_.K.all_at cb2 38 rfl)) (of_decide_eq_true (_root_.K.all_at cb2 39 rfl)) (of_decide_eq_true (_root_.K.all_at cb3 0 rfl)) (of_decide_eq_true (_root_.K.all_at cb3 1 rfl)) (of_decide_eq_true (_root_.K.all_at cb3 2 rfl)) (of_decide_eq_true (_root_.K.all_at cb3 3 rfl)) (of_decide_eq_true (_root_.K.all_at cb3 4 rfl)) (of_decide_eq_true (_root_.K.all_at cb3 5 rfl)) (of_decide_eq_true (_root_.K.all_at cb3 6 rfl)) (lBroken) (cBroken) (kfBroken) (of_decide_eq_true (_root_.K.all_at cb3 7 rfl)) (of_decide_eq_true (_root_.K.all_at cb3 8 rfl)) (of_decide_eq_true (_root_.K.all_at cb3 9 rfl)) (xWhole) (rWhole) (of_decide_eq_true (_root_.K.all_at cb3 11 rfl)) (of_decide_eq_true (_root_.K.all_at cb3 12 rfl)) (of_decide_eq_true (_root_.K.all_at cb3 13 rfl)) (of_decide_eq_true (_root_.K.all_at cb3 14 rfl)) (of_decide_eq_true (_root_.K.all_at cb3 15 rfl)) (of_decide_eq_true (_root_.K.all_at cb3 16 rfl)) (of_decide_eq_true (_root_.K.all_at cb3 17 rfl)) (of_decide_eq_true (_root_.K.all_at cb3 18 rfl)) (of_decide_eq_true (_root_.K.all_at cb3 19 rfl)) (lWhole) (cWhole) (kfWhole) (of_decide_eq_true (_root_.K.all_at cb3 20 rfl)) (of_decide_eq_true (_root_.K.all_at cb3 21 rfl)) (of_decide_eq_true (_root_.K.all_at cb3 22 rfl)) (of_decide_eq_true (_root_.K.all_at cb3 23 rfl)) (of_decide_eq_true (_root_.K.all_at cb3 24 rfl)) (of_decide_eq_true (_root_.K.all_at cb3 25 rfl)) (of_decide_eq_true (_root_.K.all_at cb3 26 rfl)) (of_decide_eq_true (_root_.K.all_at cb3 27 rfl)) (of_decide_eq_true (_root_.K.all_at cb3 28 rfl)) (of_decide_eq_true (_root_.K.all_at cb3 29 rfl)) (of_decide_eq_true (_root_.K.all_at cb3 30 rfl)) (lNumbersinit) (cNumbersinit) (kfNumbersinit) (of_decide_eq_true (_root_.K.all_at cb3 31 rfl)) (of_decide_eq_true (_root_.K.all_at cb3 32 rfl)) (lNumberstake) (cNumberstake) (kfNumberstake) (of_decide_eq_true (_root_.K.all_at cb3 33 rfl)) (of_decide_eq_true (_root_.K.all_at cb3 34 rfl)) (of_decide_eq_true (_root_.K.all_at cb3 35 rfl)) (of_decide_eq_true (_root_.K.all_at cb3 36 rfl)) (of_decide_eq_true (_root_.K.all_at cb3 37 rfl)) (of_decide_eq_true (_root_.K.all_at cb3 38 rfl)) (of_decide_eq_true (_root_.K.all_at cb3 39 rfl)) (of_decide_eq_true (_root_.K.all_at cb4 0 rfl)) (of_decide_eq_true (_root_.K.all_at cb4 1 rfl)) (of_decide_eq_true (_root_.K.all_at cb4 2 rfl)) (of_decide_eq_true (_root_.K.all_at cb4 3 rfl)) (of_decide_eq_true (_root_.K.all_at cb4 4 rfl)) (lSlipinit) (cSlipinit) (kfSlipinit) (of_decide_eq_true (_root_.K.all_at cb4 5 rfl)) (of_decide_eq_true (_root_.K.all_at cb4 6 rfl)) (of_decide_eq_true (_root_.K.all_at cb4 7 rfl)) (of_decide_eq_true (_root_.K.all_at cb4 8 rfl)) (of_decide_eq_true (_root_.K.all_at cb4 9 rfl)) (of_decide_eq_true (_root_.K.all_at cb4 10 rfl)) (of_decide_eq_true (_root_.K.all_at cb4 11 rfl)) (of_decide_eq_true (_root_.K.all_at cb4 12 rfl)) (of_decide_eq_true (_root_.K.all_at cb4 13 rfl)) (of_decide_eq_true (_root_.K.all_at cb4 14 rfl)) (of_decide_eq_true (_root_.K.all_at cb4 15 rfl)) (of_decide_eq_true (_root_.K.all_at cb4 16 rfl)) (of_decide_eq_true (_root_.K.all_at cb4 17 rfl)) (of_decide_eq_true (_root_.K.all_at cb4 18 rfl)) (of_decide_eq_true (_root_.K.all_at cb4 19 rfl)) (of_decide_eq_true (_root_.K.all_at cb4 20 rfl)) (lHouseinit) (cHouseinit) (kfHouseinit) (of_decide_eq_true (_root_.K.all_at cb4 21 rfl)) (of_decide_eq_true (_root_.K.all_at cb4 22 rfl)) (lHouselive_slip) (cHouselive_slip) (kfHouselive_slip) (of_decide_eq_true (_root_.K.all_at cb4 23 rfl)) (of_decide_eq_true (_root_.K.all_at cb4 24 rfl)) (lHouseslip_rows) (cHouseslip_rows) (kfHouseslip_rows) (of_decide_eq_true (_root_.K.all_at cb4 25 rfl)) (of_decide_eq_true (_root_.K.all_at cb4 26 rfl)) (of_decide_eq_true (_root_.K.all_at cb4 27 rfl)) (of_decide_eq_true (_root_.K.all_at cb4 28 rfl)) (of_decide_eq_true (_root_.K.all_at cb4 29 rfl)) (of_decide_eq_true (_root_.K.all_at cb4 30 rfl)) (of_decide_eq_true (_root_.K.all_at cb4 31 rfl)) (of_decide_eq_true (_root_.K.all_at cb4 32 rfl)) (of_decide_eq_true (_root_.K.all_at cb4 33 rfl)) (of_decide_eq_true (_root_.K.all_at cb4 34 rfl)) (of_decide_eq_true (_root_.K.all_at cb4 35 rfl)) (of_decide_eq_true (_root_.K.all_at cb4 36 rfl)) (of_decide_eq_true (_root_.K.all_at cb4 37 rfl)) (of_decide_eq_true (_root_.K.all_at cb4 38 rfl)) (of_decide_eq_true (_root_.K.all_at cb4 39 rfl)) (of_decide_eq_true (_root_.K.all_at cb5 0 rfl)) (of_decide_eq_true (_root_.K.all_at cb5 1 rfl)) (lWebinit) (cWebinit) (kfWebinit) (of_decide_eq_true (_root_.K.all_at cb5 2 rfl)) (of_decide_eq_true (_root_.K.all_at cb5 3 rfl)) (lWeblen) (cWeblen) (kfWeblen) (of_decide_eq_true (_root_.K.all_at cb5 4 rfl)) (of_decide_eq_true (_root_.K.all_at cb5 5 rfl)) (lWebrepr) (cWebrepr) (kfWebrepr) (of_decide_eq_true (_root_.K.all_at cb5 6 rfl)) (of_decide_eq_true (_root_.K.all_at cb5 7 rfl)) (lWebcheck_houses) (cWebcheck_houses) (kfWebcheck_houses) (of_decide_eq_true (_root_.K.all_at cb5 8 rfl)) (of_decide_eq_true (_root_.K.all_at cb5 9 rfl)) (lWebcheck_tie) (cWebcheck_tie) (kfWebcheck_tie) (of_decide_eq_true (_root_.K.all_at cb5 10 rfl)) (of_decide_eq_true (_root_.K.all_at cb5 11 rfl)) (lWebbuild) (cWebbuild) (kfWebbuild) (of_decide_eq_true (_root_.K.all_at cb5 12 rfl)) (of_decide_eq_true (_root_.K.all_at cb5 13 rfl)) (lWebcut) (cWebcut) (kfWebcut) (of_decide_eq_true (_root_.K.all_at cb5 14 rfl)) (of_decide_eq_true (_root_.K.all_at cb5 15 rfl)) (lWebsnap) (cWebsnap) (kfWebsnap) (of_decide_eq_true (_root_.K.all_at cb5 16 rfl)) (of_decide_eq_true (_root_.K.all_at cb5 17 rfl)) (lWebmend) (cWebmend) (kfWebmend) (of_decide_eq_true (_root_.K.all_at cb5 18 rfl)) (of_decide_eq_true (_root_.K.all_at cb5 19 rfl)) (lWebcharge) (cWebcharge) (kfWebcharge) (of_decide_eq_true (_root_.K.all_at cb5 20 rfl)) (of_decide_eq_true (_root_.K.all_at cb5 21 rfl)) (lWebties) (cWebties) (kfWebties) (of_decide_eq_true (_root_.K.all_at cb5 22 rfl)) (of_decide_eq_true (_root_.K.all_at cb5 23 rfl)) (lWebrows) (cWebrows) (kfWebrows) (of_decide_eq_true (_root_.K.all_at cb5 24 rfl)) (of_decide_eq_true (_root_.K.all_at cb5 25 rfl)) (lWebtunnels) (cWebtunnels) (kfWebtunnels) (of_decide_eq_true (_root_.K.all_at cb5 26 rfl)) (of_decide_eq_true (_root_.K.all_at cb5 27 rfl)) (of_decide_eq_true (_root_.K.all_at cb5 28 rfl)) (of_decide_eq_true (_root_.K.all_at cb5 29 rfl)) (of_decide_eq_true (_root_.K.all_at cb5 30 rfl)) (coMOST_HOUSES) (coMOST_TIES) (coMOST_PRICE) (coMOST_ABOVE) (coMOST_NUMBER) (of_decide_eq_true (_root_.K.all_at cb5 36 rfl)) (of_decide_eq_true (_root_.K.all_at cb5 37 rfl)) (of_decide_eq_true (_root_.K.all_at cb5 38 rfl)) (of_decide_eq_true (_root_.K.all_at cb5 39 rfl)) (of_decide_eq_true (_root_.K.all_at cb6 0 rfl)) (of_decide_eq_true (_root_.K.all_at cb6 1 rfl)) (of_decide_eq_true (_root_.K.all_at cb6 2 rfl)) (of_decide_eq_true (_root_.K.all_at cb6 3 rfl)) (of_decide_eq_true (_root_.K.all_at cb6 4 rfl)) (of_decide_eq_true (_root_.K.all_at cb6 5 rfl)) (of_decide_eq_true (_root_.K.all_at cb6 6 rfl)) (of_decide_eq_true (_root_.K.all_at cb6 7 rfl)) (of_decide_eq_true (_root_.K.all_at cb6 8 rfl)) (of_decide_eq_true (_root_.K.all_at cb6 9 rfl)) (of_decide_eq_true (_root_.K.all_at cb6 10 rfl)) (of_decide_eq_true (_root_.K.all_at cb6 11 rfl)) (of_decide_eq_true (_root_.K.all_at cb6 12 rfl)) (of_decide_eq_true (_root_.K.all_at cb6 13 rfl)) (of_decide_eq_true (_root_.K.all_at cb6 14 rfl)) (of_decide_eq_true (_root_.K.all_at cb6 15 rfl)) (of_decide_eq_true (_root_.K.all_at cb6 16 rfl)) (of_decide_eq_true (_root_.K.all_at cb6 17 rfl)) (of_decide_eq_true (_root_.K.all_at cb6 18 rfl)) (of_decide_eq_true (_root_.K.all_at cb6 19 rfl)) (of_decide_eq_true (_root_.K.all_at cb6 20 rfl)) (of_decide_eq_true (_root_.K.all_at cb6 21 rfl)) (of_decide_eq_true (_root_.K.all_at cb6 22 rfl)) (of_decide_eq_true (_root_.K.all_at cb6 23 rfl)) (of_decide_eq_true (_root_.K.all_at cb6 24 rfl)) (of_decide_eq_true (_root_.K.all_at cb6 25 rfl)) (of_decide_eq_true (_root_.K.all_at cb6 26 rfl)) (of_decide_eq_true (_root_.K.all_at cb6 27 rfl)) (of_decide_eq_true (_root_.K.all_at cb6 28 rfl)) (of_decide_eq_true (_root_.K.all_at cb6 29 rfl)) (of_decide_eq_true (_root_.K.all_at cb6 30 rfl)) (of_decide_eq_true (_root_.K.all_at cb6 31 rfl)) (of_decide_eq_true (_root_.K.all_at cb6 32 rfl)) (of_decide_eq_true (_root_.K.all_at cb6 33 rfl)) (of_decide_eq_true (_root_.K.all_at cb6 34 rfl)) (of_decide_eq_true (_root_.K.all_at cb6 35 rfl)) (of_decide_eq_true (_root_.K.all_at cb6 36 rfl)) (of_decide_eq_true (_root_.K.all_at cb6 37 rfl)) (of_decide_eq_true (_root_.K.all_at cb6 38 rfl)) (of_decide_eq_true (_root_.K.all_at cb6 39 rfl)) (of_decide_eq_true (_root_.K.all_at cb7 0 rfl)) (of_decide_eq_true (_root_.K.all_at cb7 1 rfl)) (of_decide_eq_true (_root_.K.all_at cb7 2 rfl)) (of_decide_eq_true (_root_.K.all_at cb7 3 rfl)) (of_decide_eq_true (_root_.K.all_at cb7 4 rfl)) (c.hd _ (by simp [tf])) (c.out _ (by simp [tf])) (c.empty _ (by simp [tf])) (c.hd _ (by simp [tf])) (c.out _ (by simp [tf])) (c.empty _ (by simp [tf])) (of_decide_eq_true (_root_.K.all_at cb7 5 rfl)) (kwB) (of_decide_eq_true (_root_.K.all_at cb7 6 rfl)) (of_decide_eq_true (_root_.K.all_at cb7 7 rfl)) (of_decide_eq_true (_root_.K.all_at cb7 8 rfl)) (of_decide_eq_true (_root_.K.all_at cb7 9 rfl)) (of_decide_eq_true (_root_.K.all_at cb7 10 rfl)) (of_decide_eq_true (_root_.K.all_at cb7 11 rfl)) (of_decide_eq_true (_root_.K.all_at cb7 12 rfl)) (of_decide_eq_true (_root_.K.all_at cb7 13 rfl)) (of_decide_eq_true (_root_.K.all_at cb7 14 rfl)) (of_decide_eq_true (_root_.K.all_at cb7 15 rfl)) (of_decide_eq_true (_root_.K.all_at cb7 16 rfl)) (of_decide_eq_true (_root_.K.all_at cb7 17 rfl)) (of_decide_eq_true (_root_.K.all_at cb7 18 rfl)) (of_decide_eq_true (_root_.K.all_at cb7 19 rfl)) (of_decide_eq_true (_root_.K.all_at cb7 20 rfl)) (of_decide_eq_true (_root_.K.all_at cb7 21 rfl)) (of_decide_eq_true (_root_.K.all_at cb7 22 rfl)) (of_decide_eq_true (_root_.K.all_at cb7 23 rfl)) (of_decide_eq_true (_root_.K.all_at cb7 24 rfl)) (of_decide_eq_true (_root_.K.all_at cb7 25 rfl)) (of_decide_eq_true (_root_.K.all_at cb7 26 rfl)) (of_decide_eq_true (_root_.K.all_at cb7 27 rfl))
end KH
open PySem PySem.W PySem.Calls PyProof.Rows
theorem PySem.Challenge.cw_swapslip_k13_ties_built_and_broken_holds : PySem.Challenge.rw_swapslip_k13_ties_built_and_broken.Holds := by
  w_on; o_law
  refine HandSHeadRun.head_any (r := OpenLaw.row PySem.Challenge.rw_swapslip_k13_ties_built_and_broken) (q := view (OpenLaw.row PySem.Challenge.rw_swapslip_k13_ties_built_and_broken).prog [76]) (H := KH.hk) (ob := KH.ob) (M := 9000) (loose := KH.lo) (d := HandSHeadRun.topDef (OpenLaw.row PySem.Challenge.rw_swapslip_k13_ties_built_and_broken).prog 76) (kwd := []) KH.ob_eq
    (by kernel_rfl) (fun s => by kernel_rfl) KH.run (by kernel_rfl) (by kernel_rfl) (by kernel_rfl) (by rfl) (by first | assumption | decide +kernel) (by decide +kernel) ⟨rfl, rfl, rfl, rfl, rfl, by decide +kernel⟩ ?hw ?hc
  case hw => w_witness2
  case hc =>
    refine LamX.walk_ofTsE (l := PySem.Challenge.rw_swapslip_k13_ties_built_and_broken) (n := 63) (k := 12) (x := "_law_script") (CX := fun _ => L2.CX0) rfl (by decide) (by kernel_rfl) ⟨rfl, by decide, by decide⟩ ?F (fun _ _ _ _ _ z => z)
    intro w mg fa h Y G hmg0
    obtain ⟨K, KX, c⟩ := Y
    have hmg : mg ("law" : PySem.Str) = some (.ref fa) := by
      have e : (HandSHeadRun.topDef (OpenLaw.row PySem.Challenge.rw_swapslip_k13_ties_built_and_broken).prog 76).name = ("law" : PySem.Str) := by kernel_rfl
      rw [← e]
      exact hmg0
    exact ⟨K, KX, KH.facts KX G hmg c⟩
